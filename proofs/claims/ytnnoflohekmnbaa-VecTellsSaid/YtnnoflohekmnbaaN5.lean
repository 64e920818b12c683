/-
  vidimusref02's sub and mul over the translated program. Nothing is assumed.
-/
import Derived.Test.YtnnoflohekmnbaaProg
import Derived.WalkKit
import Derived.WalkSpells
import Derived.WalkLawsBesides
import Derived.LoopN
import Derived.IntWalk
import Derived.Lib.Hide
import Derived.Test.YtnnoflohekmnbaaN4
import Derived.Laws.BitsAllLaws
import Derived.Laws.Externs
import Derived.BigQuiet
import Derived.BigRegion
import Derived.Deep.QuietTactic
import Derived.Deep.RegionWith
import Derived.Deep.RegionHeld3
import Derived.StillTailTactics
import Derived.RegionTactic
import Derived.ChangeAlike
set_option linter.unusedVariables false
namespace Go.Proofs.Ytnnoflohekmnbaa
open Go.RowKit
/-- A call that tells W bits of number N. -/
def RetRB (w0 : World) (W N : Nat) (e : Ending) (w' : World) : Prop := ∃ A c l, e = .returned (.slice A W c) ∧ l.length = W ∧ nb l = N ∧ RB w' w'.heap.size A l ∧ Below w0.heap.size w0 w'
theorem RetBs.rb {w0 w' : World} {W N : Nat} {e : Ending} (h : RetBs w0 W N e w') : RetRB w0 W N e w' := by
  obtain ⟨v, l, rfl, hl, hN, ho, hb⟩ := h
  obtain ⟨A, c, rfl, hr, _⟩ := ho.val
  exact ⟨A, c, l, by rw [hl], hl, hN, hr, hb⟩
theorem bnxB {a w w1 : World} (h : Below a.heap.size a w) (hb : Below w.heap.size w w1) : Below a.heap.size a w1 := h.trans (hb.mono h.size)
theorem refSub_any (A A' : Option Addr) (c c' : Nat) (a b : List Bool) (w : World) (h : RB w w.heap.size A a) (h' : RB w w.heap.size A' b) (hab : b.length = a.length) (hn : a.length ≤ 1000) :
    Calls Try.prog 44 #[.slice A a.length c, .slice A' a.length c'] w (RetRB w a.length ((nb a + (2 ^ a.length - 1 - nb b) + bn true) % 2 ^ a.length)) := by
  have H := refNot_any A' c' b w h' (by omega)
  rw [hab] at H
  have H2 := fun (w1 : World) (hb : Below w.heap.size w w1) A2 c2 (l : List Bool) (hl : l.length = a.length) (hr : RB w1 w1.heap.size A2 l) => refAdd_any A A2 c c2 a l true w1 (h.nx hb) hr hl hn
  have H2 := Lib.hid H2
  generalize (nb a : Nat) = N at *
  obtain ⟨S, hS⟩ : ∃ S, (N + (2 ^ a.length - 1 - nb b) + bn true) % 2 ^ a.length = S := ⟨_, rfl⟩
  rw [hS]
  have HS := Lib.hid hS
  generalize 2 ^ a.length - 1 - nb b = K at *
  clear hS h h'
  have HN := Lib.hid hn
  clear hn hab
  go_enter Try.func44, Try.ntmps44
  go_wp2_with fail
  refine H.mono ?_
  rintro e w1 ⟨v, l, rfl, hl, hN, ho, hb⟩
  obtain ⟨A2, c2, rfl, hr, _⟩ := ho.val
  rw [hl]
  have H3 := H2.out w1 hb A2 c2 l hl hr
  rw [hN] at H3
  have HL := Lib.hid hl
  have HB := Lib.hid hb
  clear H2 hl hN ho hr hb
  go_wp2_with fail
  refine H3.mono ?_
  rintro e w2 ⟨v, l2, rfl, hl2, hN2, ho2, hb2⟩
  obtain ⟨A3, c3, rfl, hr3, _⟩ := ho2.val
  rw [hl2]
  clear H3
  go_wp2
  go_ret
  exact ⟨A3, c3, l2, rfl, hl2, hN2.trans HS.out, hr3, bnxB HB.out hb2⟩
/-- A new row of bits, all 0. -/
def mkO (n : Nat) : Obj := .cells (madeCells #[.bool false] n) 4
theorem mkB (n : Nat) (hn : n ≤ 1001) (w : World) : (Instr.makeSlice 65 (.int .i64 (n : Int)) (.int .i64 (n : Int))).run Try.prog w = .ok (.slice (some ⟨w.heap.size, 0, none⟩) n n) (w.alloc (mkO n)) := by
  obtain ⟨i0, hi0, hz0, hz1, hz2⟩ := info_parts bool_info
  rw [run_make w 65 4 i0 _ Try.underlying65 hi0 hz0 .i64 .i64 n n (by omega) (by omega) (by rw [hz2]; omega) (by omega), hz1]
  simp [Value.cells, mkO]
/-- Block g holds the bits l, from its beginning on, and may be written. -/
def Bq (w : World) (g : Nat) (l : List Bool) : Prop := ∀ i, i < l.length → w.cell? ⟨g, i, none⟩ = some (.bool (l.getD i false)) ∧ w.frozen? ⟨g, i, none⟩ = false
theorem Bq.below {w w' : World} {B g : Nat} {l : List Bool} (h : Bq w g l) (hb : Below B w w') (hg : g < B) : Bq w' g l := fun i hi =>
  ⟨(hb.cell (p := ⟨g, i, none⟩) hg).trans (h i hi).1, (hb.frozen (p := ⟨g, i, none⟩) hg).trans (h i hi).2⟩
theorem Bq.store {w : World} {g : Nat} {l : List Bool} (h : Bq w g l) (m : Nat) (hm : m < l.length) (b : Bool) : Bq (w.setCell ⟨g, m, none⟩ (.bool b)) g (l.set m b) := by
  intro i hi
  rw [List.length_set] at hi
  refine ⟨?_, by simp [(h i hi).2]⟩
  by_cases he : m = i
  · subst he
    have e : (l.set m b).getD m false = b := by simp [List.getD_eq_getElem?_getD, hm]
    rw [e]
    exact World.cell?_setCell_same _ _ _ (h m hm).1
  · have e : (l.set m b).getD i false = l.getD i false := by simp [List.getD_eq_getElem?_getD, he]
    rw [e, World.cell?_setCell_other _ _ _ _ (fun e => he (congrArg Addr.off e))]
    exact (h i hi).1
theorem bq_made (w : World) (n : Nat) : Bq (w.alloc (mkO n)) w.heap.size (List.replicate n false) := by
  intro i hi
  unfold mkO
  simp only [List.length_replicate] at hi
  have hb := (MapKept.heap_alloc w (.cells (madeCells #[.bool false] n) 4)).1
  constructor
  · have hl := toList_madeCells_one (.bool false) n
    simp only [World.cell?, hb]
    have e1 : (madeCells #[Value.bool false] n)[i]? = some (.bool false) := by
      rw [← Array.getElem?_toList, hl]; simp [hi]
    have e2 : (List.replicate n false).getD i false = false := by simp [List.getD_eq_getElem?_getD, hi]
    rw [e2]
    simpa using e1
  · go_simp
theorem Bq.rb {w : World} {g : Nat} {l : List Bool} (h : Bq w g l) (hg : g < w.heap.size) : RB w w.heap.size (some ⟨g, 0, none⟩) l := fun i hi => ⟨_, rfl, hg, by rw [add_loc]; exact (h i hi).1⟩
theorem RB.stored {w : World} {B g m : Nat} {A : Option Addr} {l : List Bool} (h : RB w B A l) (hg : ∀ ad, A = some ad → ad.block ≠ g) (u : Value) : RB (w.setCell ⟨g, m, none⟩ u) B A l := by
  intro i hi
  obtain ⟨ad, e, hlt, hc⟩ := h i hi
  refine ⟨ad, e, hlt, ?_⟩
  rw [World.cell?_setCell_other _ _ _ _ (fun e' => hg ad e (by rw [← blk_add ad i, ← e']))]
  exact hc
set_option maxRecDepth 100000 in
set_option maxHeartbeats 1600000 in
theorem refMul_any (A A' : Option Addr) (c c' : Nat) (a b : List Bool) (w : World) (h : RB w w.heap.size A a) (h' : RB w w.heap.size A' b) (hab : b.length = a.length) (hn : a.length ≤ 1000) :
    Calls Try.prog 82 #[.slice A a.length c, .slice A' a.length c'] w (RetRB w a.length (nb a * nb b % 2 ^ a.length)) := by
  have hmk := mkB a.length (by omega)
  have HS : ∀ wx, Below w.heap.size w wx → ∀ j : Nat, j ≤ 1000 → Calls Try.prog 84 #[.slice A a.length c, .int .i64 (j : Int), .bool false] wx (RetRB wx a.length (nb a * 2 ^ j % 2 ^ a.length)) := fun wx hb j hj =>
    (refShift_any A c a j false wx (h.nx hb) hn (by omega) (by omega)).mono fun e w' ⟨v, he, ho, hb'⟩ => by
      obtain ⟨A2, c2, rfl, hr, _⟩ := ho.val
      rw [shL_len] at he
      exact ⟨A2, c2, _, he, shL_len _ _ _ _, nb_sll a j, hr, hb'⟩
  have HS := Lib.hid HS
  have HA : ∀ wx (A1 A2 : Option Addr) (c1 c2 : Nat) (o s : List Bool) (N M : Nat), RB wx wx.heap.size A1 o → RB wx wx.heap.size A2 s → o.length = a.length → s.length = a.length → nb o = N → nb s = M →
      Calls Try.prog 43 #[.slice A1 a.length c1, .slice A2 a.length c2, .bool false] wx (RetRB wx a.length ((N + M + bn false) % 2 ^ a.length)) := fun wx A1 A2 c1 c2 o s N M h1 h2 e1 e2 e3 e4 => by
    have := refAdd_any A1 A2 c1 c2 o s false wx h1 h2 (by omega) (by omega)
    rw [e1, e3, e4] at this
    exact this.mono fun e w' h => h.rb
  have HA := Lib.hid HA
  obtain ⟨S, hS⟩ : ∃ S, nb a * nb b % 2 ^ a.length = S := ⟨_, rfl⟩
  rw [hS]
  have HT := Lib.hid hS
  clear hS
  go_enter Try.func82, Try.ntmps82
  go_wp2
  go_loopw [5, 6] (fun v i wr => ∃ (j : Nat) (Ao : Option Addr) (co : Nat) (o : List Bool), j ≤ a.length ∧ v = .slice Ao a.length co ∧ i = .int .i64 j ∧ Hid (nb o = nb a * nb (b.take j) % 2 ^ a.length) ∧ o.length = a.length ∧ RB wr wr.heap.size Ao o ∧ Below w.heap.size w wr) (fun _ i _ => a.length - (intOf i).toNat)
  case atStart => exact ⟨0, _, _, List.replicate a.length false, Nat.zero_le _, rfl, rfl, by show _ = _; rw [nb_rep_false]; simp [nb], by simp, (bq_made _ _).rb (by simp), bal (Below.refl _ _) _⟩
  case round =>
    obtain ⟨j, Ao, co, o, hj, rfl, rfl, HO, hoj, ho, hb⟩ := hrel
    by_cases hlt : j < a.length
    · obtain ⟨ad', rfl, hbk', hc'⟩ := h' j (by omega)
      replace hc' := (hb.cell (by rw [blk_add]; exact hbk')).trans hc'
      have HE : Hid (b.getD j false = true → ((nb a * nb (b.take j) % 2 ^ a.length) + nb a * 2 ^ j % 2 ^ a.length + bn false) % 2 ^ a.length = nb a * nb (b.take (j + 1)) % 2 ^ a.length) := by
        intro hy
        rw [nb_take b j (by omega)]
        exact mul_step _ _ _ _ _ _ rfl hy
      have HF : Hid (b.getD j false = false → nb a * nb (b.take j) % 2 ^ a.length = nb a * nb (b.take (j + 1)) % 2 ^ a.length) := by
        intro hy
        rw [nb_take b j (by omega), hy]
        simp [bn]
      generalize b.getD j false = y at *
      clear h h' HT
      cases y
      · have HG : Hid (nb o = nb a * nb (b.take (j + 1)) % 2 ^ a.length) := HO.out.trans (HF.out rfl)
        clear HO HE HF HA HS hmk
        go_wp2
        go_roundw
        case rel => exact ⟨j + 1, Ao, co, o, by omega, rfl, by go_num, HG, hoj, ho, hb⟩
        case measure => (simp [intOf] <;> omega)
      · have HG := HE.out rfl
        have HG := Lib.hid HG
        clear HE HF hmk
        go_wp2_with fail
        refine (HS.out wr hb j (by omega)).mono ?_
        rintro e w1 ⟨A2, c2, s, rfl, hs, hsN, hsr, hb1⟩
        have H3 := HA.out w1 Ao A2 co c2 o s _ _ (ho.nx hb1) hsr hoj hs HO.out hsN
        have HB := Lib.hid (bnxB hb hb1)
        clear HA HS HO hs hsN hsr hb1 hb ho hc'
        go_wp2_with fail
        refine H3.mono ?_
        rintro e w2 ⟨A3, c3, o2, rfl, ho2, hoN, hor, hb2⟩
        clear H3
        go_wp2
        go_roundw
        case rel => exact ⟨j + 1, A3, c3, o2, by omega, rfl, by go_num, hoN.trans HG.out, ho2, hor, bnxB HB.out hb2⟩
        case measure => (simp [intOf] <;> omega)
    · obtain rfl : j = a.length := by omega
      have HE : Hid (nb o = S) := by
        show _ = _
        rw [← HT.out, HO.out, ← hab, List.take_length]
      clear HO h h' HS HA HT hmk
      go_wp2
      go_ret
      exact ⟨_, _, o, rfl, hoj, HE.out, ho, hb⟩
end Go.Proofs.Ytnnoflohekmnbaa
