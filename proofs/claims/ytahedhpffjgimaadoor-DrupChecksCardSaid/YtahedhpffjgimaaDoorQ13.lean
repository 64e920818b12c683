/-
  drop: pieces.
  drop.
-/
import Derived.Test.YtahedhpffjgimaaDoorProg
import Derived.WalkKit
import Derived.WalkSpells
import Derived.WalkLawsBesides
import Derived.Lib.Hide
import Derived.BigQuiet
import Derived.Deep.QuietTactic
import Derived.Deep.RegionWith
import Derived.Deep.RegionHeld3
import Derived.Test.YtahedhpffjgimaaDoorQ11
import Derived.Deep.Cut
import Derived.Deep.DeepCutAuto
import Derived.Deep.LoopGhost
import Derived.WalkMore
import Derived.IntWalk
set_option linter.unusedVariables false
/- drop: pieces. -/
namespace Go.Proofs.YtahedhpffjgimaaDoor
open Go.RowKit
theorem sum_put {W : Nat → Wt} {id : Nat} {v : Wt} : ∀ (I : List Nat), v.rest.length ≤ (W id).rest.length → (I.map (fun i => (wtPut W id v i).rest.length)).sum ≤ (I.map (fun i => (W i).rest.length)).sum
  | [], _ => by simp
  | i :: I, h => by
    have := sum_put I h
    have : (wtPut W id v i).rest.length ≤ (W i).rest.length := by
      by_cases e : i = id
      · subst e; rw [wtPut_same]; exact h
      · rw [wtPut_other e]; exact Nat.le_refl _
    simp only [List.map_cons, List.sum_cons]
    omega
theorem sum_less {W : Nat → Wt} {id : Nat} {v : Wt} : ∀ (I : List Nat), id ∈ I → v.rest.length < (W id).rest.length → (I.map (fun i => (wtPut W id v i).rest.length)).sum + 1 ≤ (I.map (fun i => (W i).rest.length)).sum
  | [], hm, _ => by simp at hm
  | i :: I, hm, h => by
    simp only [List.map_cons, List.sum_cons]
    by_cases e : i = id
    · subst e
      have := sum_put (W := W) (id := i) (v := v) I (by omega)
      rw [wtPut_same]; omega
    · have h1 : id ∈ I := by
        rcases List.mem_cons.1 hm with h' | h'
        · exact absurd h'.symm e
        · exact h'
      have := sum_less I h1 h
      rw [wtPut_other e]; omega
section
variable {z : World} {sb hb rb T : Nat} {w w' : World} {t : Nat → Tag} {vF : Value} {nR : Nat} {vk : Int → Value} {F G : List Int} {R : Int → List Nat} {W : Nat → Wt} {I : List Nat} {row : Option Nat}
/-- One that waits turns. -/
theorem CSx.wput (h : CSx z sb hb rb T w t vF nR vk F G R W I) {id T' : Nat} (hid : id ∈ I) (hg : w.grownBy w' (some id)) {v : Wt} (hv : WaitAt w' z.heap.size id v) (hp : nR + (I.map (fun i => (wtPut W id v i).rest.length)).sum ≤ T') :
    CSx z sb hb rb T' w' t vF nR vk F G R (wtPut W id v) I := by
  obtain ⟨ht, hz, _⟩ := h.wa id hid
  have hn : ∀ τ, τ ≠ Tag.wait → ∀ g, some id = some g → t g ≠ τ := by
    intro τ hτ g e; cases e; rw [ht]; exact hτ.symm
  have hB : ∀ g, some id = some g → z.heap.size ≤ g := by intro g e; cases e; exact hz
  obtain ⟨a, b, c⟩ := h.rec' hg (hn _ (by simp))
  refine ⟨below_grown h.bel hg hB, h.ts, h.th, h.tr, h.bs, h.bh, h.br, a, b, c, h.frc' hg (hn _ (by simp)), h.tF, h.hld' hg (hn _ (by simp)), h.rws' hg (hn _ (by simp)), hp, fun k => h.row' hg k (hn _ (by simp)), h.tR, ?_, h.rI, h.rl⟩
  intro i hi
  by_cases e : i = id
  · subst e; rw [wtPut_same]; exact ⟨ht, hz, hv⟩
  · rw [wtPut_other e]; exact h.wat' hg hB i hi (fun e2 => e (by cases e2; rfl))
theorem RI.set {B i : Nat} {A : Option Addr} {l : List Int} (h : RI w B A l) (hB : B ≤ i) (o : Nat) (v : Value) : RI (w.setCell ⟨i, o, none⟩ v) B A l := by
  intro j hj
  obtain ⟨ad, e, h1, h2⟩ := h j hj
  refine ⟨ad, e, h1, ?_⟩
  rw [World.cell?_setCell_other _ _ _ _ (by intro e2; have := congrArg Addr.block e2; rw [block_add] at this; simp at this; omega)]
  exact h2
theorem WaitAt.one' {B i : Nat} {v : Wt} (h : WaitAt w B i v) (hB : B ≤ i) (y : Int) : WaitAt (w.setCell ⟨i, 0, none⟩ (.int .i64 y)) B i ⟨y, v.two, v.rest⟩ := by
  obtain ⟨⟨a1, a2⟩, ⟨b1, b2⟩, A, c, c1, c2, c3, c4, c5⟩ := h
  refine ⟨⟨World.cell?_setCell_same _ _ _ a1, by simpa using a2⟩, ⟨?_, by simpa using b2⟩, A, c, ?_, by simpa using c2, c3.set hB 0 _, c4, c5⟩
  · rw [World.cell?_setCell_other _ _ _ _ (by simp)]; exact b1
  · rw [World.cell?_setCell_other _ _ _ _ (by simp)]; exact c1
theorem WaitAt.two' {B i : Nat} {v : Wt} (h : WaitAt w B i v) (hB : B ≤ i) (y : Int) : WaitAt (w.setCell ⟨i, 1, none⟩ (.int .i64 y)) B i ⟨v.one, y, v.rest⟩ := by
  obtain ⟨⟨a1, a2⟩, ⟨b1, b2⟩, A, c, c1, c2, c3, c4, c5⟩ := h
  refine ⟨⟨?_, by simpa using a2⟩, ⟨World.cell?_setCell_same _ _ _ b1, by simpa using b2⟩, A, c, ?_, by simpa using c2, c3.set hB 1 _, c4, c5⟩
  · rw [World.cell?_setCell_other _ _ _ _ (by simp)]; exact a1
  · rw [World.cell?_setCell_other _ _ _ _ (by simp)]; exact c1
theorem WaitAt.rest' {B i : Nat} {v : Wt} (h : WaitAt w B i v) (hB : B ≤ i) (A' : Option Addr) (l : List Int) (c' : Nat) (hr : RI w B A' l) (h1 : l.length ≤ c') (h2 : c' ≤ maxLen) : WaitAt (w.setCell ⟨i, 2, none⟩ (.slice A' l.length c')) B i ⟨v.one, v.two, l⟩ := by
  obtain ⟨⟨a1, a2⟩, ⟨b1, b2⟩, A, c, c1, c2, c3, c4, c5⟩ := h
  refine ⟨⟨?_, by simpa using a2⟩, ⟨?_, by simpa using b2⟩, A', c', World.cell?_setCell_same _ _ _ c1, by simpa using c2, hr.set hB 2 _, h1, h2⟩
  · rw [World.cell?_setCell_other _ _ _ _ (by simp)]; exact a1
  · rw [World.cell?_setCell_other _ _ _ _ (by simp)]; exact b1
end
section
variable {z : World} {sb hb rb T : Nat} {w w' : World} {vk : Int → Value} {F : List Int} {R : Int → List Nat} {W : Nat → Wt} {I : List Nat}
theorem CS.c2 (h : CS z sb hb rb T w vk F R W I) : w.cell? ⟨sb, 2, none⟩ = some (.map (some rb)) := by
  obtain ⟨t, vF, nR, h⟩ := h
  exact h.c2
theorem CS.lookR (h : CS z sb hb rb T w vk F R W I) {x : Int} (h0 : -4611686018427387904 ≤ x) (h1 : x ≤ 4611686018427387904) : (Instr.lookup 188 (.map (some rb)) (.int .i64 x) false).run Tryd.prog w = .ok (vk x) w := by
  obtain ⟨t, vF, nR, h⟩ := h
  exact h.lookR h0 h1
theorem CS.wait (h : CS z sb hb rb T w vk F R W I) {k : Int} {i : Nat} (hi : i ∈ R k) : i ∈ I ∧ z.heap.size ≤ i ∧ WaitAt w z.heap.size i (W i) := by
  obtain ⟨t, vF, nR, h⟩ := h
  exact ⟨h.rI k i hi, (h.wa i (h.rI k i hi)).2⟩
theorem CS.rowL (h : CS z sb hb rb T w vk F R W I) (k : Int) : (R k).length ≤ T := by
  obtain ⟨t, vF, nR, h⟩ := h
  have := h.rl k
  have := h.pot
  omega
theorem CS.row (h : CS z sb hb rb T w vk F R W I) (k : Int) : ∃ A c, vk k = .slice A (R k).length c ∧ ∀ j (hj : j < (R k).length), ∃ g, A = some ⟨g, 0, none⟩ ∧ w.cell? ⟨g, j, none⟩ = some (ptr ((R k).getD j 0)) := by
  obtain ⟨t, vF, nR, h⟩ := h
  rcases (h.oR k).2 with ⟨e, h0⟩ | ⟨g, cap, cur, e, hg, hh, h1, h2, h3, h4⟩
  · exact ⟨none, 0, by rw [e, h0], fun j hj => by omega⟩
  · refine ⟨_, cap, e, fun j hj => ⟨g, rfl, ?_⟩⟩
    have ho := h.oR k
    rw [e] at ho
    rw [World.ownsRow.cellAt ho j (by omega)]
    simp [List.getD_eq_getElem?_getD, hj]
theorem CS.wone (h : CS z sb hb rb T w vk F R W I) {id : Nat} (hid : id ∈ I) (y : Int) : CS z sb hb rb T (w.setCell ⟨id, 0, none⟩ (.int .i64 y)) vk F R (wtPut W id ⟨y, (W id).two, (W id).rest⟩) I := by
  obtain ⟨t, vF, nR, h⟩ := h
  obtain ⟨_, hz, hw⟩ := h.wa id hid
  refine ⟨t, vF, nR, h.wput hid (grown_set _ _) (hw.one' hz y) ?_⟩
  have := sum_put (W := W) (id := id) (v := ⟨y, (W id).two, (W id).rest⟩) I (Nat.le_refl _)
  have := h.pot
  omega
end
end Go.Proofs.YtahedhpffjgimaaDoor
/- drop. -/
namespace Go.Proofs.YtahedhpffjgimaaDoor
open Go.RowKit
/-- What dropping a literal tells. -/
def RetDrop (z : World) (sb hb rb T : Nat) (L : List (List Int)) (A D : List Int) (x : Int) (F : List Int) (e : Ending) (w' : World) : Prop :=
  (e = .returned (.bool true) ∧ Clash L A ∧ Below z.heap.size z w') ∨
  (e = .returned (.bool false) ∧ ∃ vk G R W I, CS z sb hb rb T w' vk (F ++ G) R W I ∧ Inv L L A (D ++ [x]) 0 [] (F ++ G) R W)
/-- How things stand when j of those that wait are looked at. -/
def DropAt (z : World) (sb hb rb T : Nat) (L : List (List Int)) (A D : List Int) (x : Int) (F : List Int) (vx : Value) (Rx : List Nat) (j : Nat) (w' : World) : Prop :=
  ∃ vk G R W I, CS z sb hb rb T w' vk (F ++ G) R W I ∧ Inv L L A D x (Rx.drop j) (F ++ G) R W ∧ vk x = vx ∧ R x = Rx
theorem DropAt.mk' {z : World} {sb hb rb T : Nat} {L : List (List Int)} {A D : List Int} {x : Int} {F : List Int} {vx : Value} {Rx : List Nat} {j : Nat} {w' : World} {vk : Int → Value} {G F' : List Int} {R : Int → List Nat} {W : Nat → Wt} {I : List Nat} (hF : F ++ G = F') (h1 : CS z sb hb rb T w' vk F' R W I) (h2 : Inv L L A D x (Rx.drop j) F' R W) (h3 : vk x = vx) (h4 : R x = Rx) : DropAt z sb hb rb T L A D x F vx Rx j w' := by
  subst hF; exact ⟨vk, G, R, W, I, h1, h2, h3, h4⟩
theorem wtPut_put (W : Nat → Wt) (id : Nat) (a b : Wt) : wtPut (wtPut W id a) id b = wtPut W id b := by
  funext i; unfold wtPut; split <;> rfl
/-- The one that waits is given another literal, and less behind it. -/
theorem CS.moved {z : World} {sb hb rb T : Nat} {w : World} {vk : Int → Value} {F : List Int} {R : Int → List Nat} {W : Nat → Wt} {I : List Nat} (h : CS z sb hb rb T w vk F R W I) {id : Nat} (hid : id ∈ I) (y : Int) (l : List Int) (Z : Option Addr) (c : Nat) (hr : RI w z.heap.size Z l) (h1 : l.length ≤ c) (h2 : c ≤ maxLen) (hl : l.length < (W id).rest.length) :
    ∃ t vF nR, CSx z sb hb rb (T - 1) ((w.setCell ⟨id, 1, none⟩ (.int .i64 y)).setCell ⟨id, 2, none⟩ (.slice Z l.length c)) t vF nR vk F F R (wtPut W id ⟨(W id).one, y, l⟩) I ∧ nR + 1 + (I.map (fun i => (wtPut W id ⟨(W id).one, y, l⟩ i).rest.length)).sum ≤ T := by
  obtain ⟨t, vF, nR, h⟩ := h
  obtain ⟨_, hz, hw⟩ := h.wa id hid
  have hs := sum_less (W := W) (id := id) (v := ⟨(W id).one, y, l⟩) I hid hl
  have hp := h.pot
  have g := (grown_set (w := w) ⟨id, 1, none⟩ (.int .i64 y)).trans (grown_set (w := w.setCell ⟨id, 1, none⟩ (.int .i64 y)) ⟨id, 2, none⟩ (.slice Z l.length c))
  exact ⟨t, vF, nR, h.wput hid g ((hw.two' hz y).rest' hz Z l c (hr.set hz 1 _) h1 h2) (by omega), by omega⟩
theorem wtPut_self (W : Nat → Wt) (id : Nat) : wtPut W id ⟨(W id).one, (W id).two, (W id).rest⟩ = W := by
  funext i; unfold wtPut; split
  · rename_i e; subst e; rfl
  · rfl
theorem RI.back {z w : World} {B : Nat} {A : Option Addr} {l : List Int} (h : RI w B A l) (hb : Below B z w) : RI z B A l := by
  intro i hi
  obtain ⟨ad, e, hlt, hc⟩ := h i hi
  exact ⟨ad, e, hlt, (hb.cell (by rw [block_add]; exact hlt)).symm.trans hc⟩
theorem seen_next {F r : List Int} {o : Int} {k : Nat} (h : ∀ y ∈ r.take k, y = o ∨ -y ∈ F) (hk : k < r.length) (hx : r.getD k 0 = o ∨ -(r.getD k 0) ∈ F) : ∀ y ∈ r.take (k + 1), y = o ∨ -y ∈ F := by
  rw [take_snocI r k hk]
  intro y hy
  rcases List.mem_append.1 hy with h' | h'
  · exact h y h'
  · rw [List.mem_singleton.1 h']; exact hx
theorem split_atU (r : List Int) (k : Nat) (hk : k < r.length) : r = r.take k ++ r.getD k 0 :: r.drop (k + 1) := by
  have : r.drop k = r.getD k 0 :: r.drop (k + 1) := by rw [List.drop_eq_getElem_cons hk]; simp [List.getD, hk]
  rw [← this, List.take_append_drop]
theorem dropN (l : List Nat) (k : Nat) (h : k < l.length) : l.drop k = l.getD k 0 :: l.drop (k + 1) := by
  rw [List.drop_eq_getElem_cons h]; simp [List.getD, h]
theorem Inv.lits {L E : List (List Int)} {A D : List Int} {x : Int} {S : List Nat} {F : List Int} {R : Int → List Nat} {W : Nat → Wt} (h : Inv L E A D x S F R W) (hX : ∀ c ∈ L, Lits c) {k : Int} {id : Nat} (hid : id ∈ R k) :
    ((W id).one ≠ 0 ∧ -100000 ≤ (W id).one ∧ (W id).one ≤ 100000) ∧ ((W id).two ≠ 0 ∧ -100000 ≤ (W id).two ∧ (W id).two ≤ 100000) ∧ Lits (W id).rest := by
  obtain ⟨⟨c, hc, a1, a2, a3, _⟩, _⟩ := h.row k id hid
  have hL := hX c (h.sub c hc)
  exact ⟨hL _ a1, hL _ a2, fun y hy => hL y (a3 y hy)⟩
theorem other_lit {x : Int} {v : Wt} (h1 : v.one ≠ 0 ∧ -100000 ≤ v.one ∧ v.one ≤ 100000) (h2 : v.two ≠ 0 ∧ -100000 ≤ v.two ∧ v.two ≤ 100000) : other x v ≠ 0 ∧ -100000 ≤ other x v ∧ other x v ≤ 100000 := by
  unfold other; split <;> assumption
theorem neg_neg_mem {F : List Int} (hc : ∀ z ∈ F, -z ∉ F) {x : Int} (h : -x ∈ F) : x ∉ F := by
  intro hx; exact hc x hx h
set_option maxHeartbeats 8000000 in
set_option maxRecDepth 100000 in
theorem drop_any {z : World} {sb hb rb T : Nat} {w : World} {vk : Int → Value} {F : List Int} {R : Int → List Nat} {W : Nat → Wt} {I : List Nat} {L : List (List Int)} {A D : List Int} {x : Int}
    (h : CS z sb hb rb T w vk F R W I) (hi : Inv L L A D 0 [] F R W) (hxF : -x ∈ F) (hxD : x ∉ D) (hX : ∀ c ∈ L, Lits c) (hA : Lits A) (hT : T ≤ 10000000) :
    Calls Tryd.prog 143 #[.pointer (some ⟨sb, 0, none⟩), .int .i64 x] w (RetDrop z sb hb rb T L A D x F) := by
  have hxl := (hi.sound _ hxF).lit hX hA
  have c2 := h.c2
  have hlR := h.lookR (x := x) (by omega) (by omega)
  have hRl := h.rowL x
  obtain ⟨Ax, cx, hvx, hrow⟩ := h.row x
  have F0 : Hid (DropAt z sb hb rb T L A D x F (vk x) (R x) 0 w) := Lib.hid ⟨vk, [], R, W, I, by simpa using h, by simpa using hi.begin hxF hxD, rfl, rfl⟩
  rw [hvx] at hlR F0
  have hc0 : ∀ c ∈ L, (0 : Int) ∉ c := fun c hc h0 => (hX c hc 0 h0).1 rfl
  have HC0 := Lib.hid hc0
  have HX := Lib.hid hX
  have HA := Lib.hid hA
  have HXF := Lib.hid hxF
  clear h hi hX hA hxD hxF hc0 hrow hvx
  generalize R x = Rx at *
  clear vk R W I
  go_enter Tryd.func143, Tryd.ntmps143
  go_wp2
  go_step3
  go_wp2
  go_step3
  go_wp2
  go_loopg [16] Rx.length (fun g i wr => ∃ j : Nat, j + g = Rx.length ∧ i = .int .i64 j ∧ DropAt z sb hb rb T L A D x F (.slice Ax Rx.length cx) Rx j wr)
  case atStart => exact ⟨0, by omega, rfl, F0.out⟩
  case round =>
    obtain ⟨j, hj, rfl, vk, G, R, W, I, hS, hI, hvx, hRx⟩ := hrel
    clear F0 hlR c2
    cases gk with
    | zero =>
      have hjl : ¬ ((j : Int) < Rx.length) := by omega
      have hjn : ¬ (j < Rx.length) := by omega
      have HI := Lib.hid hI
      have HS := Lib.hid hS
      have HV := Lib.hid hvx
      have HR := Lib.hid hRx
      clear hI hS hvx hRx
      go_wp2
      try rw [Exit.noGoto_ret]
      go_ret
      have h1 := HI.out
      rw [List.drop_of_length_le (by omega)] at h1
      exact .inr ⟨rfl, vk, G, R, W, I, HS.out, h1.done (by simp [HXF.out]) HC0.out⟩
    | succ g =>
      have hlt : j < Rx.length := by omega
      obtain ⟨A', c', hv', hcell⟩ := hS.row x
      rw [hvx] at hv'
      rw [hRx] at hv' hcell
      cases hv'
      obtain ⟨gx, rfl, hcx⟩ := hcell j hlt
      rw [dropN Rx j hlt] at hI
      have hidR : Rx.getD j 0 ∈ R x := by rw [hRx]; simp [List.getD_eq_getElem?_getD, hlt]
      generalize Rx.getD j 0 = id at *
      obtain ⟨hidI, hzi, ⟨⟨w1, f1⟩, ⟨w2, f2⟩, Ar, cr, w3, f3, rr, rc, rm⟩⟩ := hS.wait hidR
      have hlens := hI.len HX.out HA.out
      have hjl : (j : Int) < Rx.length := by omega
      have HI := Lib.hid hI
      have HV := Lib.hid hvx
      have HR := Lib.hid hRx
      have HS := Lib.hid hS
      have HidI := Lib.hid hidI
      have HidR := Lib.hid hidR
      obtain ⟨l1, l2, l3⟩ := HI.out.lits HX.out hidR
      obtain ⟨o0, o1, o2⟩ := other_lit (x := x) l1 l2
      obtain ⟨o, ho⟩ : ∃ o, other x (W id) = o := ⟨_, rfl⟩
      obtain ⟨r, hr⟩ : ∃ r, (W id).rest = r := ⟨_, rfl⟩
      rw [ho] at o0 o1 o2
      rw [hr] at l3
      have HO := Lib.hid ho
      have HRR := Lib.hid hr
      have HL3 := Lib.hid l3
      have hcs : CS z sb hb rb T wr vk (F ++ G) R W I := hS
      have HCS := Lib.hid hcs
      unfold ptr at hcx
      clear hI hvx hRx hS hidI hidR hcell rr hcs l3 ho hr l1 l2
      obtain ⟨F', hF'⟩ : ∃ F', F ++ G = F' := ⟨_, rfl⟩
      rw [hF'] at HI HS HCS hlens
      have HF' := Lib.hid hF'
      clear hF'
      go_upto_if 25 with (fail)
      go_cut [6] (fun s6 wx => s6 = .pointer (some ⟨id, 0, none⟩) ∧ CS z sb hb rb T wx vk F' R (wtPut W id ⟨o, (W id).two, r⟩) I)
      case first =>
        by_cases hone : (W id).one = x
        · have d1 : ((W id).one == x) = true := by simp [hone]
          have hq := HS.out.wone HidI.out (W id).two
          have e1 : other x (W id) = (W id).two := by unfold other; rw [if_pos hone]
          rw [HRR.out, ← e1, HO.out] at hq
          have HQ := Lib.hid hq
          have HE1 := Lib.hid (e1.symm.trans HO.out)
          clear hone hq e1
          go_wp2
          go_meet
          case rel => exact ⟨rfl, by rw [HE1.out]; first | exact HQ.out | (have := HQ.out; rw [HE1.out] at this; exact this)⟩
        · have d1 : ((W id).one == x) = false := by simp [hone]
          have e1 : other x (W id) = (W id).one := by unfold other; rw [if_neg hone]
          have hq := HS.out
          rw [← wtPut_self W id, HRR.out, ← e1, HO.out] at hq
          have HQ := Lib.hid hq
          clear hone hq e1
          go_wp2
          go_meet
          case rel => exact ⟨rfl, HQ.out⟩
      case rest =>
        obtain ⟨rfl, hS1⟩ := hcut
        clear w1 f1 w2 f2 w3 f3 hcx rc rm Ar cr
        obtain ⟨_, _, hwa⟩ := hS1.wait HidR.out
        rw [wtPut_same] at hwa
        obtain ⟨⟨w1, f1⟩, ⟨w2, f2⟩, Ar, cr, w3, f3, rr, rc, rm⟩ := hwa
        have c1 := hS1.c1
        have V := Lib.hid (var_q (x := o) (by omega) (by omega))
        have hl := hS1.look (v := (o.natAbs : Int)) (by omega) (by omega)
        have HS1 := Lib.hid hS1
        have HRI := Lib.hid rr
        clear hS1 rr
        by_cases hoF : o ∈ F'
        · rw [heldF_in hoF (HI.out.cons o hoF) (by omega)] at hl
          have d1 : (o == o) = true := by simp
          have HOF := Lib.hid hoF
          clear hoF
          go_wp2_with fail
          go_quiet ((go_at_call 76; exact Calls.quiet_of_same (V.out _)))
          go_wp2
          go_roundg g
          case measure => omega
          case rel =>
            have hsk := HI.out.skip (by rw [HO.out]; exact HOF.out)
            rw [HO.out, HRR.out] at hsk
            exact ⟨j + 1, by omega, by go_num, DropAt.mk' HF'.out (HS1.out.nq _) hsk HV.out HR.out⟩
        · have hne : heldF F' o.natAbs ≠ o := fun e => hoF ((heldF_eq o0 (fun hm => HI.out.cons _ hm)).1 e)
          have d1 : (heldF F' o.natAbs == o) = false := by rw [beq_eq_false_iff_ne]; exact hne
          have HOF := Lib.hid hoF
          generalize heldF F' o.natAbs = ho at *
          clear hoF hne
          go_wp2_with fail
          go_quiet ((go_at_call 76; exact Calls.quiet_of_same (V.out _)))
          go_wp2
          have hS2 := HS1.out.nq nq
          clear hl c1 w1 f1 w2 f2 w3 f3
          generalize wc.drewN nq = wd at *
          have HS2 := Lib.hid hS2
          clear hS2
          go_loopg [53] r.length (fun g2 s53 wy => ∃ k : Nat, k + g2 = r.length ∧ s53 = .int .i64 k ∧ Hid (∀ y ∈ r.take k, y = o ∨ -y ∈ F') ∧ CS z sb hb rb T wy vk F' R (wtPut W id ⟨o, (W id).two, r⟩) I)
          case atStart => exact ⟨0, by omega, rfl, Lib.hid (by simp), HS2.out⟩
          case round =>
            obtain ⟨k, hk, rfl, HP, hS3⟩ := hrel
            have HS3 := Lib.hid hS3
            obtain ⟨_, _, hwa⟩ := hS3.wait HidR.out
            rw [wtPut_same] at hwa
            obtain ⟨⟨w1, f1⟩, ⟨w2, f2⟩, Aq, cq, w3, f3, rr, rc', rm'⟩ := hwa
            have c1 := hS3.c1
            cases gk with
            | zero =>
              obtain rfl : k = r.length := by omega
              have n1 : ¬ ((r.length : Int) < r.length) := by omega
              have n2 : ¬ (r.length < r.length) := by omega
              have hfo : Forced L A o := by
                have := HI.out.only (by rw [HO.out]; exact HOF.out) (by rw [HO.out, HRR.out]; intro y hy; exact HP.out y (by rw [List.take_length]; exact hy))
                rwa [HO.out] at this
              have HFO := Lib.hid hfo
              by_cases hnF : -o ∈ F'
              · have C := force_neg hS3 o o0 o1 o2 (fun y hy => HI.out.cons y hy) hnF
                have HNF := Lib.hid hnF
                clear hS3 hnF hfo w2 f2 w3 f3
                go_wp2_with fail
                refine C.mono ?_; rintro e w4 ⟨rfl, rfl⟩
                clear C
                go_wp2
                try rw [Exit.noGoto_ret]
                go_ret
                exact .inl ⟨rfl, HI.out.both HFO.out HNF.out, HS3.out.bel⟩
              · have C := force_new hS3 o o0 o1 o2 (by omega) HOF.out hnF
                have HNF := Lib.hid hnF
                clear hS3 hnF hfo w2 f2 w3 f3
                go_wp2_with fail
                refine C.mono ?_; rintro e w4 ⟨rfl, hS4⟩
                have HS4 := Lib.hid hS4
                clear C hS4 w1 f1 c1
                go_wp2
                go_roundg g
                case measure => omega
                case rel =>
                  have hsk := (HI.out.force HFO.out o0 HOF.out HNF.out).skip (by rw [HO.out]; simp)
                  rw [HO.out, HRR.out] at hsk
                  exact ⟨j + 1, by omega, by go_num, DropAt.mk' (G := G ++ [o]) (by rw [← HF'.out]; simp) HS4.out hsk HV.out HR.out⟩
            | succ g2 =>
              have hkl : k < r.length := by omega
              obtain ⟨a2, rfl, hb2, hc2⟩ := ((HRI.out.back HS1.out.bel).below hS3.bel) k hkl
              obtain ⟨x0, x1, x2⟩ := HL3.out _ (getD_mem r k hkl)
              have HNX := Lib.hid (fun h => seen_next HP.out hkl h)
              have HSP := Lib.hid (split_atU r k hkl)
              have hkl' : (k : Int) < r.length := by omega
              have hkq : k + 1 + g2 = r.length := by omega
              have hrl : r.length ≤ 9223372036854775807 := by have h1 := rm; have h2 := rc; unfold maxLen at h1; omega
              have HKQ := Lib.hid hkq
              clear hkq hk
              generalize r.getD k 0 = y at *
              have V2 := Lib.hid (var_q (x := y) (by omega) (by omega))
              have hl := hS3.look (v := (y.natAbs : Int)) (by omega) (by omega)
              by_cases hyo : y = o
              · have d1 : (y != o) = false := by simp [hyo]
                have HYO := Lib.hid hyo
                clear hyo hS3
                go_wp2_with fail
                go_quiet ((go_at_call 76; exact Calls.quiet_of_same (V2.out _)))
                go_wp2
                go_roundg g2
                case measure => omega
                case rel => exact ⟨k + 1, HKQ.out, by go_num, Lib.hid (HNX.out (.inl HYO.out)), HS3.out.nq _⟩
              · have d1 : (y != o) = true := by simp [hyo]
                by_cases hnF : -y ∈ F'
                · rw [(heldF_neg x0 (fun hm => neg_neg_mem HI.out.cons hm)).2 hnF] at hl
                  have d2 : (-y != -y) = false := by simp
                  have HNF := Lib.hid hnF
                  clear hyo hS3 hnF
                  go_wp2_with fail
                  go_quiet ((go_at_call 76; exact Calls.quiet_of_same (V2.out _)))
                  go_wp2
                  go_roundg g2
                  case measure => omega
                  case rel => exact ⟨k + 1, HKQ.out, by go_num, Lib.hid (HNX.out (.inr HNF.out)), HS3.out.nq _⟩
                · have hne : heldF F' y.natAbs ≠ -y := fun e => hnF ((heldF_neg x0 (fun hm => neg_neg_mem HI.out.cons hm)).1 e)
                  have d2 : (heldF F' y.natAbs != -y) = true := by simp [hne]
                  have HNF := Lib.hid hnF
                  have HYO := Lib.hid hyo
                  have hs : ∀ wx, (Instr.slice 26 (.slice Aq r.length cq) (some (.int .i64 ((k : Int) + 1))) none none).run Tryd.prog wx = .ok (.slice (cutU Aq cq (k + 1)) (r.length - (k + 1)) (cq - (k + 1))) wx := by
                    intro wx
                    have := sliceU_l Aq r.length cq (k + 1) (by omega) wx
                    rwa [Int.natCast_add] at this
                  have hwk : IntKind.i64.wrap ((k : Int) + 1) = (k : Int) + 1 := IntWalk.i64_in _ (by omega)
                  have hs2 : ∀ wx, (Instr.slice 26 (.slice Aq r.length cq) (some (.int .i64 (IntKind.i64.wrap ((k : Int) + 1)))) none none).run Tryd.prog wx = .ok (.slice (cutU Aq cq (k + 1)) (r.length - (k + 1)) (cq - (k + 1))) wx := by rw [hwk]; exact hs
                  clear hwk
                  have hcut := rr.cut (k := k + 1) rc'
                  have HCUT := Lib.hid hcut
                  generalize heldF F' y.natAbs = hy at *
                  generalize cutU Aq cq (k + 1) = Z at *
                  clear hyo hS3 hnF hne hcut rr
                  go_wp2_with fail
                  go_quiet ((go_at_call 76; exact Calls.quiet_of_same (V2.out _)))
                  go_wp2_with fail
                  go_region
                  have hdl : (r.drop (k + 1)).length = r.length - (k + 1) := by simp
                  obtain ⟨t', vF, nR, s1, hpot⟩ := (HS3.out.nq (nq + 1)).moved HidI.out y (r.drop (k + 1)) Z (cq - (k + 1)) (HCUT.out.below (drw (nq + 1) |>.mono HS3.out.bel.size)) (by rw [hdl]; omega) (by omega) (by rw [wtPut_same, hdl]; show _ < r.length; omega)
                  rw [hdl, wtPut_same, wtPut_put] at s1
                  rw [wtPut_same, wtPut_put] at hpot
                  generalize hwq : ((wr.drewN (nq + 1)).setCell ⟨id, 1, none⟩ (.int .i64 y)).setCell ⟨id, 2, none⟩ (.slice Z (r.length - (k + 1)) (cq - (k + 1))) = wq at s1
                  have HWQ := Lib.hid hwq
                  have KS : Hid (∀ w', wq.grownBy w' none → w'.cell? ⟨sb, 2, none⟩ = some (.map (some rb))) := fun w' hg => (s1.nx hg).c2
                  have KL : ∀ w', wq.grownBy w' none → (Instr.lookup 188 (.map (some rb)) (.int .i64 y) false).run Tryd.prog w' = .ok (vk y) w' := fun w' hg => (s1.nx hg).lookR (by omega) (by omega)
                  have L1 := KL _ (gdr _)
                  have L2 := KL _ ((World.grownBy_alloc wq (.cells #[.pointer (some ⟨id, 0, none⟩)] 195) none).trans (gdr _))
                  have hpot1 := s1.pot
                  have HQ1 := Lib.hid s1
                  clear s1 hwq KL w1 f1 w2 f2 w3 f3 c1 hl hs hs2 hc2
                  go_wp2_with fail
                  go_region_held3 (fun w' => w'.cell? ⟨sb, 2, none⟩ = some (.map (some rb)))
                    (first | exact KS.out _ (gdr _) | exact KS.out _ ((gdr _).trans (World.grownBy_alloc _ _ _)) | exact KS.out _ ((World.grownBy_alloc _ _ _).trans (gdr _)) | assumption | exact hs4.c2)
                    ((refine step_rows (T' := T) (by rfl) _ _ (by rfl) HQ1.out (by first | exact gdr _ | exact (gdr _).trans (World.grownBy_alloc _ _ _) | exact (World.grownBy_alloc _ _ _).trans (gdr _)) HidI.out (k := y) (by omega) (by omega) (by omega) (by omega) (by rfl) wq.heap.size (by rfl) (by unfold ptr; go_simp) ?_; intro v' wv w4 t4 hup hs4 hq1 hq2))
                  all_goals
                    have H4 := Lib.hid hs4
                    clear hs4 hup hq1 hq2 L1 L2 KS HQ1
                    go_wp2
                    go_roundg g
                    case measure => omega
                    case rel =>
                      have hyx : x ≠ y := by
                        intro e; subst e; exact HNF.out (by rw [← HF'.out]; simp [HXF.out])
                      have hmv := HI.out.move (by rw [HO.out]; exact HOF.out) (by rw [HRR.out]; exact HSP.out) (by rw [HO.out]; exact HP.out) (by rw [HO.out]; exact HYO.out) HNF.out
                      rw [HO.out] at hmv
                      exact ⟨j + 1, by omega, by go_num, DropAt.mk' HF'.out ⟨_, _, _, H4.out⟩ hmv (by show (if x = y then v' else vk x) = _; rw [if_neg hyx]; exact HV.out) (by unfold rowAdd; rw [if_neg hyx]; exact HR.out)⟩
end Go.Proofs.YtahedhpffjgimaaDoor
