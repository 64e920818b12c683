/-
  closeUp.
  Close, and Refutes.
  Refutes.
  Which formulas are small, and right.
  May it be asked about?
  Rows held against one another; what holds in a model; whether a number is in a row.
  The document's example.
  The document's example, walked.
  UnitForced, walked.
-/
import Derived.Test.YtahedhpffjgimaaDoorProg
import Derived.WalkKit
import Derived.WalkSpells
import Derived.WalkLawsBesides
import Derived.Lib.Hide
import Derived.BigQuiet
import Derived.Deep.QuietTactic
import Derived.Deep.RegionWith
import Derived.Deep.RegionHeld3
import Derived.Test.YtahedhpffjgimaaDoorQ13
import Derived.Deep.Cut
import Derived.Deep.DeepCutAuto
import Derived.Deep.LoopGhost
import Derived.Test.YtahedhpffjgimaaDoorQ12
import Derived.Laws.OwnMore
import Derived.Test.YtahedhpffjgimaaDoorQ11
set_option linter.unusedVariables false
/- closeUp. -/
namespace Go.Proofs.YtahedhpffjgimaaDoor
open Go.RowKit
/-- What closing clauses tells. -/
def RetClosed (z : World) (L : List (List Int)) (A : List Int) (e : Ending) (w' : World) : Prop :=
  (e = .returned (.tuple #[.slice none 0 0, .bool true]) ∧ Clash L A ∧ Below z.heap.size z w') ∨
  (∃ vF F, e = .returned (.tuple #[vF, .bool false]) ∧ OwnI w' z.heap.size vF F ∧ Closed L A F ∧ F.Nodup ∧ Below z.heap.size z w')
theorem CS.first (w : World) (W : Nat → Wt) : CS w (w.heap.size + 1 + 1) w.heap.size (w.heap.size + 1) 0 (((w.alloc (.map #[] 0)).alloc (.map #[] 0)).alloc (.cells #[.slice none 0 0, .map (some w.heap.size), .map (some (w.heap.size + 1))] 190)) (fun _ => .slice none 0 0) [] (fun _ => []) W [] := by
  have e1 : (w.alloc (.map #[] 0)).heap.size = w.heap.size + 1 := by simp
  have e2 : ((w.alloc (.map #[] 0)).alloc (.map #[] 0)).heap.size = w.heap.size + 2 := by simp
  have g2 := World.grownBy_alloc (w.alloc (.map #[] 0)) (.map #[] 0) none
  have g3 := World.grownBy_alloc ((w.alloc (.map #[] 0)).alloc (.map #[] 0)) (.cells #[.slice none 0 0, .map (some w.heap.size), .map (some (w.heap.size + 1))] 190) none
  have m1 := ((MapF.made w 126 .u64 (.int .i64 0)).kept g2 (by simp)).kept g3 (by simp)
  have m2 := (MapF.made (w.alloc (.map #[] 0)) 3 .i64 (.slice none 0 0)).kept g3 (by simp)
  rw [e1] at m2
  refine ⟨fun i => if i = w.heap.size then .held else if i = w.heap.size + 1 then .rows else .recd, .slice none 0 0, 0, ?_, ?_, ?_, ?_, by omega, by omega, by omega, ⟨?_, ?_⟩, ?_, ?_, OwnI.nil _ _, ?_, ?_, m2, by simp, ?_, ?_, by simp, by simp, by simp⟩
  · exact (((Below.refl _ _).alloc (Nat.le_refl _) _).alloc (by simp) _).alloc (by simp; omega) _
  · show (if w.heap.size + 1 + 1 = w.heap.size then Tag.held else if w.heap.size + 1 + 1 = w.heap.size + 1 then .rows else .recd) = .recd
    rw [if_neg (by omega), if_neg (by omega)]
  · simp
  · simp
  · go_simp
  · go_simp
  · go_simp
  · go_simp
  · intro g hg; cases hg
  · exact m1.congr (fun x _ => by simp [heldF])
  · intro k; exact World.ownsRow_nil _ _ _ _
  · intro k g hg; cases hg
theorem CS.forced {z : World} {sb hb rb T : Nat} {w : World} {vk : Int → Value} {F : List Int} {R : Int → List Nat} {W : Nat → Wt} {I : List Nat} (h : CS z sb hb rb T w vk F R W I) : ∃ A c, w.cell? ⟨sb, 0, none⟩ = some (.slice A F.length c) ∧ OwnI w z.heap.size (.slice A F.length c) F ∧ RI w w.heap.size A F := by
  obtain ⟨t, vF, nR, h⟩ := h
  obtain ⟨A, c, rfl, hr, _⟩ := h.oF.val
  exact ⟨A, c, h.c0.1, h.oF, hr⟩
/-- How things stand when the first k literals are assumed. -/
def AssumeAt (z : World) (sb hb rb : Nat) (L : List (List Int)) (A : List Int) (k : Nat) (w' : World) : Prop :=
  ∃ vk F R W I, CS z sb hb rb 0 w' vk F R W I ∧ Inv L [] A [] 0 [] F R W ∧ ∀ y ∈ A.take k, y ∈ F
/-- How things stand when k of those that are forced are dropped. -/
def CloseAt (z : World) (sb hb rb T : Nat) (L : List (List Int)) (A : List Int) (k : Nat) (w' : World) : Prop :=
  ∃ vk F R W I, k ≤ F.length ∧ CS z sb hb rb T w' vk F R W I ∧ Inv L L A ((F.take k).map (- ·)) 0 [] F R W ∧ ∀ y ∈ A, y ∈ F
theorem CloseAt.next {z : World} {sb hb rb T : Nat} {L : List (List Int)} {A : List Int} {k : Nat} {w' : World} {vk : Int → Value} {F G : List Int} {R : Int → List Nat} {W : Nat → Wt} {I : List Nat} (hk : k < F.length) (h1 : CS z sb hb rb T w' vk (F ++ G) R W I) (h2 : Inv L L A ((F.take k).map (- ·) ++ [-(F.getD k 0)]) 0 [] (F ++ G) R W) (h3 : ∀ y ∈ A, y ∈ F) : CloseAt z sb hb rb T L A (k + 1) w' := by
  refine ⟨vk, F ++ G, R, W, I, by simp; omega, h1, ?_, fun y hy => by simp [h3 y hy]⟩
  have e : ((F ++ G).take (k + 1)).map (- ·) = (F.take k).map (- ·) ++ [-(F.getD k 0)] := by
    rw [List.take_append_of_le_length (by omega), take_snocI F k hk]; simp
  rw [e]; exact h2
theorem not_dropped {F : List Int} (hn : F.Nodup) {k : Nat} (hk : k < F.length) : -(F.getD k 0) ∉ (F.take k).map (- ·) := by
  intro hm
  obtain ⟨y, hy, e⟩ := List.mem_map.1 hm
  have e2 : y = F.getD k 0 := by omega
  have hd : (F.take (k + 1)).Nodup := hn.sublist (List.take_sublist _ _)
  rw [take_snocI F k hk, List.nodup_append] at hd
  exact hd.2.2 y hy _ (by simp) e2
set_option maxHeartbeats 8000000 in
set_option maxRecDepth 100000 in
theorem closeUp_any (LA AA : Option Addr) (c c' : Nat) (L : List (List Int)) (A : List Int) (w : World) (hL : RCk w w.heap.size LA L) (hR : RI w w.heap.size AA A) (hX : ∀ c ∈ L, Lits c) (hA : Lits A) (hT : tot L ≤ 10000000) (hl : L.length ≤ 1000000) (hlc : ∀ c ∈ L, c.length ≤ 1000000) (hal : A.length ≤ 1000000) :
    Calls Tryd.prog 140 #[.slice LA L.length c, .slice AA A.length c'] w (RetClosed w L A) := by
  have F0 : Hid (AssumeAt w (w.heap.size + 1 + 1) w.heap.size (w.heap.size + 1) L A 0 _) := Lib.hid ⟨_, _, _, _, _, CS.first w (fun _ => ⟨0, 0, []⟩), Inv.first L A _, by simp⟩
  have HL := Lib.hid hL
  have HR := Lib.hid hR
  have HX := Lib.hid hX
  have HA := Lib.hid hA
  have HLC := Lib.hid hlc
  clear hL hR hX hA hlc
  have mk : ∀ (t : TypeId) (wx : World), (Instr.makeMap t none).run Tryd.prog wx = .ok (.map (some wx.heap.size)) (wx.alloc (.map #[] 0)) := fun _ _ => rfl
  go_enter Tryd.func140, Tryd.ntmps140
  go_wp2
  clear mk
  generalize ((w.alloc (.map #[] 0)).alloc (.map #[] 0)).alloc (.cells #[.slice none 0 0, .map (some w.heap.size), .map (some (w.heap.size + 1))] 190) = w0 at *
  generalize w.heap.size + 1 + 1 = sb at *
  generalize w.heap.size + 1 = rb at *
  generalize hhb : w.heap.size = hb at *
  have HHB := Lib.hid hhb
  clear hhb
  go_loopg [15] A.length (fun g s15 wr => ∃ k : Nat, k + g = A.length ∧ s15 = .int .i64 k ∧ AssumeAt w sb hb rb L A k wr)
  case atStart => exact ⟨0, by omega, rfl, F0.out⟩
  case round =>
    obtain ⟨k, hk, rfl, vk, F, R, W, I, hS, hI, hFA⟩ := hrel
    clear F0
    have hFl := hI.len HX.out HA.out
    have HFA := Lib.hid hFA
    have HI := Lib.hid hI
    have HS := Lib.hid hS
    clear hI hFA
    cases gk with
    | zero =>
      obtain rfl : k = A.length := by omega
      have n1 : ¬ ((A.length : Int) < A.length) := by omega
      have n2 : ¬ (A.length < A.length) := by omega
      have C := enter_any hS HI.out LA c (by have h5 := HL.out; rw [← HHB.out] at h5; exact h5) HX.out HA.out (by omega) hl HLC.out
      clear hS
      go_wp2_with fail
      refine C.mono ?_
      clear C
      rintro e w1 hq
      rcases hq with ⟨rfl, hcl, hb1⟩ | ⟨rfl, vk, F1, R, W, I, hS, hI, hF1⟩
      · have HCL := Lib.hid hcl
        have HB1 := Lib.hid hb1
        clear hcl hb1
        go_wp2
        go_ret2
        exact .inl ⟨rfl, HCL.out, HB1.out⟩
      · have F1 : Hid (CloseAt w sb hb rb (0 + tot L) L A 0 w1) := Lib.hid ⟨vk, F1, R, W, I, by omega, hS, by simpa using hI, fun y hy => hF1 y (HFA.out y (by rw [List.take_length]; exact hy))⟩
        clear hS hI hF1 HFA HI HS hFl
        go_wp2
        go_loopg [9] 200001 (fun g s9 wr => ∃ k : Nat, k + g = 200001 ∧ s9 = .int .i64 k ∧ CloseAt w sb hb rb (0 + tot L) L A k wr)
        case atStart => exact ⟨0, by omega, rfl, F1.out⟩
        case round =>
          obtain ⟨k, hk, rfl, vk, F, R, W, I, hkF, hS, hI, hFA⟩ := hrel
          clear F1
          obtain ⟨AF, cF, hc0, hown, hrF⟩ := hS.forced
          have hFl := hI.len HX.out HA.out
          have HFA := Lib.hid hFA
          have HI := Lib.hid hI
          have HS := Lib.hid hS
          have HOW := Lib.hid hown
          by_cases hlt : k < F.length
          · cases gk with
            | zero => omega
            | succ g =>
              obtain ⟨ad, rfl, hab, hcc⟩ := hrF k hlt
              have hm := getD_mem F k hlt
              have hnd := not_dropped hI.fnod hlt
              have hbd := (hI.sound _ hm).lit HX.out HA.out
              have C := drop_any (x := -(F.getD k 0)) hS hI (by simpa using hm) hnd HX.out HA.out (by omega)
              have HNX := Lib.hid (fun w' vk G R W I => @CloseAt.next w sb hb rb (0 + tot L) L A k w' vk F G R W I hlt)
              clear hS hI hFA hown hrF hm hnd
              generalize F.getD k 0 = x at *
              have hlt' : (k : Int) < F.length := by omega
              go_wp2_with fail
              refine C.mono ?_
              clear C
              rintro e w2 hq
              rcases hq with ⟨rfl, hcl, hb1⟩ | ⟨rfl, vk, G, R, W, I, hS, hI⟩
              · have HCL := Lib.hid hcl
                have HB1 := Lib.hid hb1
                clear hcl hb1 hc0
                go_wp2
                go_ret2
                exact .inl ⟨rfl, HCL.out, HB1.out⟩
              · have HN := Lib.hid (HNX.out w2 vk G R W I hS hI HFA.out)
                clear hS hI hc0
                go_wp2
                go_roundg g
                case measure => omega
                case rel => exact ⟨k + 1, by omega, by go_num, HN.out⟩
          · obtain rfl : k = F.length := by omega
            have n1 : ¬ ((F.length : Int) < F.length) := by omega
            have n2 : ¬ (F.length < F.length) := by omega
            clear hS hI hFA hown hrF
            go_wp2
            go_ret2
            refine .inr ⟨_, F, rfl, HOW.out, ?_, HI.out.fnod, HS.out.bel⟩
            have h1 := HI.out
            rw [List.take_length] at h1
            exact h1.closed HFA.out (fun z hz => by simp; exact hz)
    | succ g =>
      have hkl : k < A.length := by omega
      have hm := getD_mem A k hkl
      obtain ⟨x0, x1, x2⟩ := HA.out _ hm
      obtain ⟨ad, rfl, hab, hcz⟩ := HR.out k hkl
      have hcc := (hS.bel.cell (p := ad.add k) (by rw [block_add, HHB.out]; exact hab)).trans hcz
      have htk := take_snocI A k hkl
      have hgv : Forced L A (A.getD k 0) := .given _ hm
      have HTK := Lib.hid htk
      have HGV := Lib.hid hgv
      clear hcz hm htk hgv
      generalize A.getD k 0 = x at *
      have hkl' : (k : Int) < A.length := by omega
      by_cases hxF : x ∈ F
      · have C := force_in hS x x0 x1 x2 (fun y hy => HI.out.cons y hy) hxF
        have HXF := Lib.hid hxF
        clear hS hxF
        go_wp2_with fail
        refine C.mono ?_; rintro e w1 ⟨rfl, rfl⟩
        clear C
        go_wp2
        go_roundg g
        case measure => omega
        case rel =>
          refine ⟨k + 1, by omega, by go_num, vk, F, R, W, I, HS.out, HI.out, ?_⟩
          rw [HTK.out]; intro y hy
          rcases List.mem_append.1 hy with h' | h'
          · exact HFA.out y h'
          · rw [List.mem_singleton.1 h']; exact HXF.out
      · by_cases hnF : -x ∈ F
        · have C := force_neg hS x x0 x1 x2 (fun y hy => HI.out.cons y hy) hnF
          have HXF := Lib.hid hnF
          clear hS hxF hnF
          go_wp2_with fail
          refine C.mono ?_; rintro e w1 ⟨rfl, rfl⟩
          clear C
          go_wp2
          go_ret2
          exact .inl ⟨rfl, HI.out.both HGV.out HXF.out, HS.out.bel⟩
        · have C := force_new hS x x0 x1 x2 (by omega) hxF hnF
          have HXF := Lib.hid (And.intro hxF hnF)
          clear hS hxF hnF
          go_wp2_with fail
          refine C.mono ?_; rintro e w1 ⟨rfl, hS2⟩
          have HS2 := Lib.hid hS2
          clear C hS2 hcc
          go_wp2
          go_roundg g
          case measure => omega
          case rel =>
            refine ⟨k + 1, by omega, by go_num, vk, F ++ [x], R, W, I, HS2.out, HI.out.force HGV.out x0 HXF.out.1 HXF.out.2, ?_⟩
            rw [HTK.out]; intro y hy
            rcases List.mem_append.1 hy with h' | h'
            · simp [HFA.out y h']
            · rw [List.mem_singleton.1 h']; simp
end Go.Proofs.YtahedhpffjgimaaDoor
/- Close, and Refutes. -/
namespace Go.Proofs.YtahedhpffjgimaaDoor
open Go.RowKit
/-- Do they clash? -/
noncomputable def clashB (L : List (List Int)) (A : List Int) : Bool := @decide (Clash L A) (Classical.propDecidable _)
theorem clashB_iff (L : List (List Int)) (A : List Int) : clashB L A = true ↔ Clash L A := by unfold clashB; exact @decide_eq_true_iff _ (Classical.propDecidable _)
/-- What is forced, sorted; nothing where they clash. -/
noncomputable def closeL (L : List (List Int)) (A : List Int) : List Int :=
  if clashB L A then [] else sortF ((A ++ L.flatten).filter (fun z => @decide (Forced L A z) (Classical.propDecidable _)))
theorem closeL_clash {L : List (List Int)} {A : List Int} (h : clashB L A = true) : closeL L A = [] := by unfold closeL; rw [if_pos h]
theorem closeL_mem {L : List (List Int)} {A : List Int} (h : clashB L A = false) (z : Int) : z ∈ closeL L A ↔ Forced L A z := by
  unfold closeL
  rw [if_neg (by simp [h]), sortF_mem, List.mem_filter, @decide_eq_true_iff _ (Classical.propDecidable _)]
  refine ⟨fun h => h.2, fun h => ⟨?_, h⟩⟩
  cases h with
  | given _ h => simp [h]
  | unit c _ hc hz _ => exact List.mem_append.2 (.inr (List.mem_flatten.2 ⟨c, hc, hz⟩))
theorem closeL_lt (L : List (List Int)) (A : List Int) : (closeL L A).Pairwise ltP := by
  unfold closeL; split
  · simp
  · exact sortF_lt _
theorem Closed.no {L : List (List Int)} {A F : List Int} (h : Closed L A F) : clashB L A = false := by
  rw [Bool.eq_false_iff]; intro hc; exact h.clash ((clashB_iff L A).1 hc)
theorem Closed.eq {L : List (List Int)} {A F : List Int} (h : Closed L A F) : closeL L A = sortF F :=
  sorted_uniq _ _ (closeL_lt L A) (sortF_lt F) (fun z => by rw [closeL_mem h.no, sortF_mem, h.mem])
/-- A call that tells a row of numbers of its own, and a flag. -/
def RetIB (w0 : World) (l : List Int) (b : Bool) (e : Ending) (w' : World) : Prop := ∃ v, e = .returned (.tuple #[v, .bool b]) ∧ OwnI w' w0.heap.size v l ∧ Below w0.heap.size w0 w'
/-- What may be asked about. -/
structure May (L : List (List Int)) (A : List Int) : Prop where
  lits : ∀ c ∈ L, Lits c
  alit : Lits A
  tot : tot L ≤ 10000000
  len : L.length ≤ 1000000
  lens : ∀ c ∈ L, c.length ≤ 1000000
  alen : A.length ≤ 1000000
theorem closed_len {L : List (List Int)} {A F : List Int} (h : Closed L A F) (hm : May L A) (hn : F.Nodup) : F.length ≤ 200001 :=
  nodup_le 200001 F (-100000) hn (fun z hz => by have := (h.sound z hz).lit hm.lits hm.alit; omega)
end Go.Proofs.YtahedhpffjgimaaDoor
/- Refutes. -/
namespace Go.Proofs.YtahedhpffjgimaaDoor
open Go.RowKit
/-- The literals the other way round. -/
def negC (c : List Int) : List Int := c.map (- ·)
theorem negC_len (c : List Int) : (negC c).length = c.length := by simp [negC]
def rowN (c : List Int) (k : Nat) : List Int := negC (c.take k) ++ List.replicate (c.length - k) 0
theorem rowN_len (c : List Int) (k : Nat) (h : k ≤ c.length) : (rowN c k).length = c.length := by simp [rowN, negC]; omega
theorem rowN_next (c : List Int) (k : Nat) (h : k < c.length) : rowN c (k + 1) = (rowN c k).set k (-(c.getD k 0)) := by
  unfold rowN
  rw [take_snocI c k h, show c.length - k = (c.length - (k + 1)) + 1 by omega, List.replicate_succ]
  have hl : (negC (c.take k)).length = k := by simp [negC]; omega
  rw [List.set_append_right _ _ (by omega), hl]
  simp [negC]
theorem rowN_full (c : List Int) : rowN c c.length = negC c := by simp [rowN]
theorem OwnI.store {w : World} {base g n cap : Nat} {l : List Int} (hl : l.length = n) (h : OwnI w base (.slice (some ⟨g, 0, none⟩) n cap) l) :
    base ≤ g ∧ ∀ j, j < n → (∃ u, w.cell? ⟨g, j, none⟩ = some u) ∧ w.frozen? ⟨g, j, none⟩ = false ∧ ∀ y : Int, OwnI (w.setCell ⟨g, j, none⟩ (.int .i64 y)) base (.slice (some ⟨g, 0, none⟩) n cap) (l.set j y) := by
  unfold OwnI at *
  subst hl
  refine ⟨(World.ownsRow.lt h g rfl).1, fun j hj => ⟨?_, World.ownsRow.frozenAt h j, fun y => ?_⟩⟩
  · have := World.ownsRow.cellAt h j (by omega)
    exact ⟨_, this.trans (List.getElem?_eq_getElem (by simpa using hj))⟩
  · have := (World.ownsRow.stored h j (.int .i64 y)).1
    rw [List.length_set, List.map_set]
    exact this
theorem neg_lits {c : List Int} (h : Lits c) : Lits (negC c) := by
  intro y hy
  obtain ⟨x, hx, rfl⟩ := List.mem_map.1 hy
  have := h x hx
  refine ⟨?_, ?_, ?_⟩ <;> omega
set_option maxHeartbeats 2000000 in
theorem Refutes_any (LA AA : Option Addr) (k k' : Nat) (n : Int) (L : List (List Int)) (c : List Int) (w : World) (hL : RCk w w.heap.size LA L) (hR : RI w w.heap.size AA c) (hm : May L c) :
    Calls Tryd.prog 139 #[.int .i64 n, .slice LA L.length k, .slice AA c.length k'] w (RetV w (.bool (clashB L (negC c)))) := by
  obtain ⟨i0, hi0, hz0, hz1, hz2⟩ := info_parts int_info
  have hlen := hm.alen
  obtain ⟨w1, hmk, ho1, hg1⟩ := run_makeSlice_full (P := Tryd.prog) (w := w) w.heap.size 26 3 i0 (.int .i64 0) 1 Tryd.underlying26 hi0 hz0 hz1 .i64 .i64 c.length (by omega) (by rw [hz2]; omega) (by unfold maxLen; omega) (Nat.le_refl _)
  have hb1 : Below w.heap.size w w1 := (Below.refl _ _).grown hg1 (Nat.le_refl _) (by intro k hk; cases hk)
  have hown : OwnI w1 w.heap.size (.slice (some ⟨w.heap.size, 0, none⟩) c.length c.length) (rowN c 0) := by
    unfold OwnI
    rw [rowN_len c 0 (by omega)]
    have e : (madeCells (Value.int IntKind.i64 0).cells (c.length * 1)).toList = (rowN c 0).map (Value.int .i64) := by
      rw [Nat.mul_one]
      show (madeCells #[.int .i64 0] c.length).toList = _
      rw [toList_madeCells_one]
      simp [rowN, negC]
    rw [← e]; exact ho1
  have HL := Lib.hid hL
  have HR := Lib.hid hR
  have HM := Lib.hid hm
  have H0 := Lib.hid (And.intro hown hb1)
  clear hL hR hm hown hb1 ho1 hg1
  go_enter Tryd.func139, Tryd.ntmps139
  go_wp2
  clear hmk
  go_loopg [17] c.length (fun g s17 wr => ∃ j : Nat, j + g = c.length ∧ s17 = .int .i64 j ∧ OwnI wr w.heap.size (.slice (some ⟨w.heap.size, 0, none⟩) c.length c.length) (rowN c j) ∧ Below w.heap.size w wr)
  case atStart => exact ⟨0, by omega, rfl, H0.out.1, H0.out.2⟩
  case round =>
    obtain ⟨j, hj, rfl, hown, hb⟩ := hrel
    clear H0
    cases gk with
    | zero =>
      obtain rfl : j = c.length := by omega
      have n1 : ¬ ((c.length : Int) < c.length) := by omega
      have n2 : ¬ (c.length < c.length) := by omega
      rw [rowN_full] at hown
      obtain ⟨A1, c1, e1, hri, _⟩ := hown.val
      rw [negC_len] at e1
      cases e1
      have C := closeUp_any LA (some ⟨w.heap.size, 0, none⟩) k c.length L (negC c) wr (HL.out.nx hb) hri HM.out.lits (neg_lits HM.out.alit) HM.out.tot HM.out.len HM.out.lens (by rw [negC_len]; exact HM.out.alen)
      rw [negC_len] at C
      have HB := Lib.hid hb
      clear hown hb hri
      go_wp2_with fail
      refine C.mono ?_
      clear C
      rintro e w2 hq
      rcases hq with ⟨rfl, hcl, hb1⟩ | ⟨vF, F, rfl, hown, hcl, hnd, hb1⟩
      · have HCB := Lib.hid ((clashB_iff L (negC c)).2 hcl)
        have HB2 := Lib.hid (bnx HB.out hb1)
        clear hcl hb1
        go_wp2
        go_ret
        exact ⟨by rw [HCB.out]; rfl, HB2.out⟩
      · have HCB := Lib.hid hcl.no
        have HB2 := Lib.hid (bnx HB.out hb1)
        clear hcl hb1 hown hnd
        go_wp2
        go_ret
        exact ⟨by rw [HCB.out]; rfl, HB2.out⟩
    | succ g =>
      have hjl : j < c.length := by omega
      obtain ⟨ad, rfl, hab, hcz⟩ := HR.out j hjl
      have hcc := (hb.cell (p := ad.add j) (by rw [block_add]; exact hab)).trans hcz
      obtain ⟨hbg, hst⟩ := hown.store (rowN_len c j (by omega))
      obtain ⟨⟨u, hu⟩, hf, hset⟩ := hst j hjl
      have hbd := HM.out.alit _ (getD_mem c j hjl)
      have hs := hset (-(c.getD j 0))
      rw [← rowN_next c j hjl] at hs
      have HS := Lib.hid hs
      have HB := Lib.hid (hb.setCell (p := ⟨w.heap.size, j, none⟩) hbg (.int .i64 (-(c.getD j 0))))
      have hjl' : (j : Int) < c.length := by omega
      clear hcz hown hst hset hs hb
      generalize c.getD j 0 = x at *
      go_wp2
      go_roundg g
      case measure => omega
      case rel => exact ⟨j + 1, by omega, by go_num, HS.out, HB.out⟩
end Go.Proofs.YtahedhpffjgimaaDoor
/- Which formulas are small, and right. -/
namespace Go.Proofs.YtahedhpffjgimaaDoor
open Go.RowKit
end Go.Proofs.YtahedhpffjgimaaDoor
/- May it be asked about? -/
namespace Go.Proofs.YtahedhpffjgimaaDoor
open Go.RowKit
/-- May clauses and literals be asked about? -/
def mayF (n : Int) (L : List (List Int)) (c : List Int) : Bool := decide (n ≤ 60) && smallF 40 L && rightF n L && smallF 40 [c] && rightF n [c]
theorem RC.one {w : World} {B : Nat} {A : Option Addr} {g k : Nat} {c : List Int} (hR : RI w B A c) (hg : g < B) (hc : w.cell? ⟨g, 0, none⟩ = some (.slice A c.length k)) (hn : c.length ≤ maxLen) : RC w B (some ⟨g, 0, none⟩) [c] := by
  intro i hi
  have : i = 0 := by simpa using hi
  subst this
  exact ⟨_, A, k, rfl, hg, by rw [add_loc]; exact hc, hR, hn⟩
/-- How things stand in memory while it is asked. -/
structure MW (w : World) (LA AA : Option Addr) (k k' : Nat) (n : Int) (L : List (List Int)) (c : List Int) (w' : World) : Prop where
  bel : Below w.heap.size w w'
  f0 : w'.cell? ⟨w.heap.size, 0, none⟩ = some (.int .i64 n)
  f1 : w'.cell? ⟨w.heap.size, 1, none⟩ = some (.slice LA L.length k)
  h0 : w'.cell? ⟨w.heap.size + 1, 0, none⟩ = some (.slice AA c.length k')
  g0 : w'.cell? ⟨w.heap.size + 1 + 1, 0, none⟩ = some (.int .i64 n)
  g1 : w'.cell? ⟨w.heap.size + 1 + 1, 1, none⟩ = some (.slice (some ⟨w.heap.size + 1, 0, none⟩) 1 1)
theorem MW.first (w : World) (LA AA : Option Addr) (k k' : Nat) (n : Int) (L : List (List Int)) (c : List Int) : MW w LA AA k k' n L c (((w.alloc (.cells #[.int .i64 n, .slice LA L.length k] 24)).alloc (.cells #[.slice AA c.length k'] 26)).alloc (.cells #[.int .i64 n, .slice (some ⟨w.heap.size + 1, 0, none⟩) 1 1] 24)) := by
  refine ⟨(((Below.refl _ _).alloc (Nat.le_refl _) _).alloc (by simp) _).alloc (by simp; omega) _, ?_, ?_, ?_, ?_, ?_⟩ <;> go_simp
theorem MW.nx {w : World} {LA AA : Option Addr} {k k' : Nat} {n : Int} {L : List (List Int)} {c : List Int} {w1 w2 : World} (h : MW w LA AA k k' n L c w1) (hb : Below w1.heap.size w1 w2) : MW w LA AA k k' n L c w2 :=
  ⟨bnx h.bel hb, (hb.cell (World.block_lt_of_cell? w1 _ h.f0)).trans h.f0, (hb.cell (World.block_lt_of_cell? w1 _ h.f1)).trans h.f1, (hb.cell (World.block_lt_of_cell? w1 _ h.h0)).trans h.h0, (hb.cell (World.block_lt_of_cell? w1 _ h.g0)).trans h.g0, (hb.cell (World.block_lt_of_cell? w1 _ h.g1)).trans h.g1⟩
end Go.Proofs.YtahedhpffjgimaaDoor
/- Rows held against one another; what holds in a model; whether a number is in a row. -/
namespace Go.Proofs.YtahedhpffjgimaaDoor
open Go.RowKit
set_option maxHeartbeats 800000 in
theorem In_any (A : Option Addr) (c : Nat) (l : List Int) (n : Int) (w : World) (h : RI w w.heap.size A l) (hn : l.length ≤ maxLen) :
    Calls Tryd.prog 89 #[.slice A l.length c, .int .i64 n] w (RetS w (.bool (l.contains n))) := by
  unfold maxLen at hn
  have HR := Lib.hid h
  obtain ⟨T, hT⟩ : ∃ T, l.contains n = T := ⟨_, rfl⟩
  rw [hT]
  have HT : Hid ((l.drop 0).contains n = T) := hT
  clear hT h
  go_enter Tryd.func89, Tryd.ntmps89
  go_wp2
  go_loop [5] (fun i => ∃ j : Nat, j ≤ l.length ∧ i = .int .i64 j ∧ Hid ((l.drop j).contains n = T)) (fun i => l.length - (intOf i).toNat)
  case atStart => exact ⟨0, Nat.zero_le _, rfl, HT⟩
  case round =>
    obtain ⟨j, hj, rfl, HJ⟩ := hrel
    clear HT
    by_cases hlt : j < l.length
    · obtain ⟨a1, rfl, _, hc1⟩ := HR.out j hlt
      have hlt' : (j : Int) < l.length := by omega
      have e := HJ.out
      rw [dropI l j hlt, List.contains_cons] at e
      generalize l.getD j 0 = x at *
      clear HJ
      by_cases hx : x = n
      · have d : (x == n) = true := by simp [hx]
        have HE : Hid (true = T) := by show _ = _; rw [← e]; simp [hx]
        clear e hx
        go_wp2
        go_ret
        exact ⟨by rw [← HE.out]; rfl, rfl⟩
      · have d : (x == n) = false := by simp [hx]
        have d' : (n == x) = false := by simp; exact fun e => hx e.symm
        have HE : Hid ((l.drop (j + 1)).contains n = T) := by show _ = _; rw [← e, d', Bool.false_or]
        clear e hx d'
        go_wp2
        go_round
        case rel => exact ⟨j + 1, by omega, by go_num, HE⟩
        case measure => simp [intOf]; omega
    · have e := HJ.out
      rw [List.drop_of_length_le (by omega)] at e
      have HE : Hid (false = T) := by show _ = _; simpa using e
      clear e HJ
      go_wp2
      go_ret
      exact ⟨by rw [← HE.out]; rfl, rfl⟩
end Go.Proofs.YtahedhpffjgimaaDoor
/- The document's example. -/
namespace Go.Proofs.YtahedhpffjgimaaDoor
open Go.RowKit
theorem lit_own (W : World) (base : Nat) (hb : base ≤ W.heap.size) (l : List Int) (hl : l.length ≤ 1000) : OwnI (W.alloc (.cells (l.map (Value.int .i64)).toArray 3)) base (.slice (some ⟨W.heap.size, 0, none⟩) l.length l.length) l := by
  unfold OwnI
  have := World.ownsRow_lit (size := 1) (e := 3) (base := base) W (l.map (Value.int .i64)).toArray l.length hb (by unfold maxLen; omega) (by simp)
  simpa using this
theorem lit_ri (W : World) (l : List Int) (hl : l.length ≤ 1000) : RI (W.alloc (.cells (l.map (Value.int .i64)).toArray 3)) (W.alloc (.cells (l.map (Value.int .i64)).toArray 3)).heap.size (some ⟨W.heap.size, 0, none⟩) l := by
  obtain ⟨A, c, e, h, _⟩ := (lit_own W 0 (Nat.zero_le _) l hl).val
  injection e with e1 _ _
  subst e1
  exact h
/-- The document's clauses. -/
def L0 : List (List Int) := [[1, 2], [-1, 3]]
theorem f0a : Forced L0 [-2] (-2) := .given _ (by simp)
theorem f0b : Forced L0 [-2] 1 := .unit [1, 2] 1 (by simp [L0]) (by simp) (by intro y hy hne; simp at hy; rcases hy with rfl | rfl; exact absurd rfl hne; exact f0a)
theorem f0c : Forced L0 [-2] 3 := .unit [-1, 3] 3 (by simp [L0]) (by simp) (by intro y hy hne; simp at hy; rcases hy with rfl | rfl; exact f0b; exact absurd rfl hne)
theorem cl0 : Closed L0 [-2] [1, -2, 3] := by
  refine ⟨?_, by simp, ?_, ?_⟩
  · intro z hz; simp at hz; rcases hz with rfl | rfl | rfl
    · exact f0b
    · exact f0a
    · exact f0c
  · intro z hz; simp at hz; rcases hz with rfl | rfl | rfl <;> decide
  · intro c hc; simp [L0] at hc; rcases hc with rfl | rfl
    · exact .inl ⟨1, by simp, by simp⟩
    · exact .inl ⟨3, by simp, by simp⟩
theorem g0a : Forced L0 [-2, -3] (-2) := .given _ (by simp)
theorem g0b : Forced L0 [-2, -3] 1 := .unit [1, 2] 1 (by simp [L0]) (by simp) (by intro y hy hne; simp at hy; rcases hy with rfl | rfl; exact absurd rfl hne; exact g0a)
theorem g0c : Forced L0 [-2, -3] (-3) := .given _ (by simp)
theorem cl1 : Clash L0 [-2, -3] := .inr ⟨[-1, 3], by simp [L0], by intro y hy; simp at hy; rcases hy with rfl | rfl; exact g0b; exact g0c⟩
theorem varF_small {x : Int} (h0 : -4611686018427387904 ≤ x) (h1 : x ≤ 4611686018427387904) : varF x = (x.natAbs : Int) := by
  unfold varF
  split
  · simp only [IntKind.wrap, IntKind.signed, IntKind.bits]; simp; omega
  · simp only [IntKind.wrap, IntKind.signed, IntKind.bits]; simp; omega
theorem ltP_small {x y : Int} (h0 : -100000 ≤ x) (h1 : x ≤ 100000) (h2 : -100000 ≤ y) (h3 : y ≤ 100000) : ltP x y ↔ (x.natAbs < y.natAbs ∨ (x.natAbs = y.natAbs ∧ x < y)) := by
  unfold ltP
  rw [varF_small (by omega) (by omega), varF_small (by omega) (by omega)]
  omega
theorem sort0 : sortF [1, -2, 3] = [1, -2, 3] := by
  refine sorted_uniq _ _ (sortF_lt _) ?_ (sortF_mem _)
  simp [ltP_small]
theorem sort1 : sortF [2, -1, 2, 1] = [-1, 1, 2] := by
  refine sorted_uniq _ _ (sortF_lt _) ?_ (fun x => ?_)
  · simp [ltP_small]
  · rw [sortF_mem]; simp; omega
theorem close0 : closeL L0 [-2] = [1, -2, 3] := by rw [cl0.eq, sort0]
theorem clash0 : clashB L0 [-2] = false := cl0.no
theorem clash1 : clashB L0 [-2, -3] = true := (clashB_iff _ _).2 cl1
theorem may0 {A : List Int} (h : A.all (fun x => decide (x ≠ 0) && decide (-3 ≤ x) && decide (x ≤ 3)) = true) (hl : A.length ≤ 10) : May L0 A := by
  have ha : Lits A := by
    intro y hy
    have := List.all_eq_true.1 h y hy
    simp only [Bool.and_eq_true, decide_eq_true_eq] at this
    omega
  refine ⟨?_, ha, by decide, by decide, ?_, by omega⟩
  · intro c hc y hy; simp [L0] at hc; rcases hc with rfl | rfl <;> simp at hy <;> omega
  · intro c hc; simp [L0] at hc; rcases hc with rfl | rfl <;> simp
theorem lits0 (w : World) : RCk (((w.alloc (.cells #[.int .i64 1, .int .i64 2] 3)).alloc (.cells #[.int .i64 (-1), .int .i64 3] 3)).alloc (.cells #[.slice (some ⟨w.heap.size, 0, none⟩) 2 2, .slice (some ⟨w.heap.size + 1, 0, none⟩) 2 2] 26)) (w.heap.size + 3) (some ⟨w.heap.size + 1 + 1, 0, none⟩) L0 := by
  intro i hi
  have r1 := lit_ri w [1, 2] (by simp)
  have r2 := lit_ri (w.alloc (.cells #[.int .i64 1, .int .i64 2] 3)) [-1, 3] (by simp)
  have b1 : Below (w.alloc (.cells #[.int .i64 1, .int .i64 2] 3)).heap.size (w.alloc (.cells #[.int .i64 1, .int .i64 2] 3)) (((w.alloc (.cells #[.int .i64 1, .int .i64 2] 3)).alloc (.cells #[.int .i64 (-1), .int .i64 3] 3)).alloc (.cells #[.slice (some ⟨w.heap.size, 0, none⟩) 2 2, .slice (some ⟨w.heap.size + 1, 0, none⟩) 2 2] 26)) := bal (bal (Below.refl _ _) _) _
  have b2 : Below ((w.alloc (.cells #[.int .i64 1, .int .i64 2] 3)).alloc (.cells #[.int .i64 (-1), .int .i64 3] 3)).heap.size ((w.alloc (.cells #[.int .i64 1, .int .i64 2] 3)).alloc (.cells #[.int .i64 (-1), .int .i64 3] 3)) (((w.alloc (.cells #[.int .i64 1, .int .i64 2] 3)).alloc (.cells #[.int .i64 (-1), .int .i64 3] 3)).alloc (.cells #[.slice (some ⟨w.heap.size, 0, none⟩) 2 2, .slice (some ⟨w.heap.size + 1, 0, none⟩) 2 2] 26)) := bal (Below.refl _ _) _
  have s1 : (w.alloc (.cells #[.int .i64 1, .int .i64 2] 3)).heap.size = w.heap.size + 1 := by simp
  have s2 : ((w.alloc (.cells #[.int .i64 1, .int .i64 2] 3)).alloc (.cells #[.int .i64 (-1), .int .i64 3] 3)).heap.size = w.heap.size + 2 := by simp
  have hi' : i = 0 ∨ i = 1 := by simp [L0] at hi; omega
  rcases hi' with rfl | rfl
  · refine ⟨_, some ⟨w.heap.size, 0, none⟩, 2, rfl, by simp, by rw [add_loc]; go_simp; rfl, ?_, by simp [L0], by simp [maxLen]⟩
    exact (r1.below b1).mono (by show (w.alloc (.cells #[.int .i64 1, .int .i64 2] 3)).heap.size ≤ _; omega)
  · refine ⟨_, some ⟨w.heap.size + 1, 0, none⟩, 2, rfl, by simp, by rw [add_loc]; go_simp; rfl, ?_, by simp [L0], by simp [maxLen]⟩
    have hx := (r2.below b2).mono (B' := w.heap.size + 3) (by show ((w.alloc (.cells #[.int .i64 1, .int .i64 2] 3)).alloc (.cells #[.int .i64 (-1), .int .i64 3] 3)).heap.size ≤ _; omega)
    rw [s1] at hx
    exact hx
end Go.Proofs.YtahedhpffjgimaaDoor
/- The document's example, walked. -/
namespace Go.Proofs.YtahedhpffjgimaaDoor
open Go.RowKit
theorem refutes_lit (bL : Nat) (A : List Int) (z : World) (hL : RCk z z.heap.size (some ⟨bL, 0, none⟩) L0) (h : A.all (fun x => decide (x ≠ 0) && decide (-3 ≤ x) && decide (x ≤ 3)) = true) (hl : A.length ≤ 10) :
    Calls Tryd.prog 139 #[.int .i64 3, .slice (some ⟨bL, 0, none⟩) 2 2, .slice (some ⟨z.heap.size, 0, none⟩) A.length A.length] (z.alloc (.cells (A.map (Value.int .i64)).toArray 3)) (RetV (z.alloc (.cells (A.map (Value.int .i64)).toArray 3)) (.bool (clashB L0 (negC A)))) :=
  Refutes_any (some ⟨bL, 0, none⟩) (some ⟨z.heap.size, 0, none⟩) 2 A.length 3 L0 A _ (hL.nx (bal (Below.refl _ _) _)) (lit_ri z A (by omega)) (may0 h hl)
theorem ints_lit (Ao : Option Addr) (c : Nat) (A : List Int) (z : World) (hr : RI z z.heap.size Ao A) (hl : A.length ≤ 10) :
    Calls Tryd.prog 42 #[.slice Ao A.length c, .slice (some ⟨z.heap.size, 0, none⟩) A.length A.length] (z.alloc (.cells (A.map (Value.int .i64)).toArray 3)) (RetV (z.alloc (.cells (A.map (Value.int .i64)).toArray 3)) (.bool true)) := by
  have := Ints_any Ao (some ⟨z.heap.size, 0, none⟩) c A.length A A _ (hr.nx (bal (Below.refl _ _) _)) (lit_ri z A (by omega)) (by unfold maxLen; omega) (by unfold maxLen; omega)
  rwa [show (A == A) = true by simp] at this
theorem sort_lit (A : List Int) (z : World) (hl : A.length ≤ 10) :
    Calls Tryd.prog 52 #[.slice (some ⟨z.heap.size, 0, none⟩) A.length A.length] (z.alloc (.cells (A.map (Value.int .i64)).toArray 3)) (RetI (z.alloc (.cells (A.map (Value.int .i64)).toArray 3)) (sortF A)) :=
  sort_any _ _ A _ (lit_ri z A (by omega)) (by omega)
end Go.Proofs.YtahedhpffjgimaaDoor
/- UnitForced, walked. -/
namespace Go.Proofs.YtahedhpffjgimaaDoor
open Go.RowKit
theorem RCk.rc {w : World} {B : Nat} {A : Option Addr} {L : List (List Int)} (h : RCk w B A L) : RC w B A L := by
  intro i hi
  obtain ⟨ad, A', c', e, hlt, hc, hr, h1, h2⟩ := h i hi
  exact ⟨ad, A', c', e, hlt, hc, hr, by omega⟩
theorem may_parts {n : Int} {L : List (List Int)} {c : List Int} (h : mayF n L c = true) : May L c ∧ L.length ≤ 40 ∧ c.length ≤ 40 ∧ (∀ d ∈ L, d.length ≤ 40) ∧ 0 ≤ n ∧ n ≤ 60 ∧ (∀ d ∈ L, ∀ x ∈ d, x ≠ 0 ∧ -n ≤ x ∧ x ≤ n) ∧ (∀ x ∈ c, x ≠ 0 ∧ -n ≤ x ∧ x ≤ n) := by
  simp only [mayF, Bool.and_eq_true, decide_eq_true_eq] at h
  obtain ⟨⟨⟨⟨h1, h2⟩, h3⟩, h4⟩, h5⟩ := h
  obtain ⟨s1, s2⟩ := small_parts h2
  obtain ⟨_, s4⟩ := small_parts h4
  obtain ⟨r0, _, _, r1⟩ := right_parts h3
  obtain ⟨_, _, _, r2⟩ := right_parts h5
  have hc := s4 c (by simp)
  have hL : ∀ d ∈ L, d.length ≤ 40 := fun d hd => by have := s2 d hd; omega
  have hx : ∀ d ∈ L, ∀ x ∈ d, x ≠ 0 ∧ -n ≤ x ∧ x ≤ n := fun d hd => (r1 d hd).2
  have hy : ∀ x ∈ c, x ≠ 0 ∧ -n ≤ x ∧ x ≤ n := (r2 c (by simp)).2
  have ht : ∀ (M : List (List Int)), (∀ d ∈ M, d.length ≤ 40) → tot M ≤ M.length * 42 := by
    intro M
    induction M with
    | nil => simp [tot]
    | cons a M ih =>
      intro hM
      have h1 := ih (fun d hd => hM d (by simp [hd]))
      have h2 := hM a (by simp)
      have e : tot (a :: M) = (a.length + 2) + tot M := by simp [tot]
      rw [e, List.length_cons]; omega
  refine ⟨⟨fun d hd x hxd => ?_, fun x hxc => ?_, by have := ht L hL; omega, by omega, fun d hd => by have := hL d hd; omega, by omega⟩, by omega, by omega, hL, r0, h1, hx, hy⟩
  · have := hx d hd x hxd; omega
  · have := hy x hxc; omega
/-- How often another literal stands that isn't forced the other way round. -/
def openN (F : List Int) : Int → List Int → Nat
  | _, [] => 0
  | f, a :: t => if F.contains (-a) = false ∧ a ≠ f then 1 + openN F a t else openN F f t
theorem openN_pos {F : List Int} {f z : Int} : ∀ (t : List Int), z ∈ t → z ≠ f → -z ∉ F → 1 ≤ openN F f t
  | [], h, _, _ => by simp at h
  | a :: t, h, hz, hn => by
    unfold openN
    split
    · omega
    · rename_i hc
      rcases List.mem_cons.1 h with e | e
      · subst e; exact absurd ⟨by simp [hn], hz⟩ hc
      · exact openN_pos t e hz hn
theorem openN_two {F : List Int} {y z : Int} (hyz : y ≠ z) (hy : -y ∉ F) (hz : -z ∉ F) : ∀ (t : List Int) (f : Int), y ∈ t → z ∈ t → (∀ a ∈ t, a ≠ f) → 2 ≤ openN F f t
  | [], _, h, _, _ => by simp at h
  | a :: t, f, h1, h2, hf => by
    unfold openN
    split
    · rename_i hc
      have : 1 ≤ openN F a t := by
        rcases List.mem_cons.1 h1 with e1 | e1
        · rcases List.mem_cons.1 h2 with e2 | e2
          · exact absurd (e1.trans e2.symm) hyz
          · exact openN_pos t e2 (fun e => hyz (e1.trans e.symm)) hz
        · by_cases e : y = a
          · rcases List.mem_cons.1 h2 with e2 | e2
            · exact absurd (e.trans e2.symm) hyz
            · exact openN_pos t e2 (fun e3 => hyz (e.trans e3.symm)) hz
          · exact openN_pos t e1 e hy
      omega
    · rename_i hc
      have ha : F.contains (-a) = true := by
        cases hx : F.contains (-a) with
        | true => rfl
        | false => exact absurd ⟨hx, hf a (by simp)⟩ hc
      have ha' : -a ∈ F := by simpa using ha
      have g1 : y ∈ t := by
        rcases List.mem_cons.1 h1 with e | e
        · subst e; exact absurd ha' hy
        · exact e
      have g2 : z ∈ t := by
        rcases List.mem_cons.1 h2 with e | e
        · subst e; exact absurd ha' hz
        · exact e
      exact openN_two hyz hy hz t f g1 g2 (fun b hb => hf b (by simp [hb]))
/-- What is forced is closed. -/
theorem closed_closeL {L : List (List Int)} {A : List Int} (h : clashB L A = false) : Closed L A (closeL L A) := by
  have hno : ¬ Clash L A := fun hc => by rw [(clashB_iff L A).2 hc] at h; cases h
  have hm := closeL_mem h
  refine ⟨fun z hz => (hm z).1 hz, fun z hz => (hm z).2 (.given z hz), fun z hz hn => hno (.inl ⟨z, (hm z).1 hz, (hm _).1 hn⟩), fun c hc => ?_⟩
  apply Classical.byContradiction
  intro hcon
  rw [not_or] at hcon
  obtain ⟨h1, h2⟩ := hcon
  by_cases hall : ∀ y ∈ c, Forced L A (-y)
  · exact hno (.inr ⟨c, hc, hall⟩)
  · simp only [Classical.not_forall] at hall
    obtain ⟨y, hy, hyn⟩ := hall
    apply h1
    refine ⟨y, hy, (hm y).2 (.unit c y hc hy fun z hz hne => ?_)⟩
    apply Classical.byContradiction
    intro hzn
    exact h2 ⟨y, z, hy, hz, fun e => hne e.symm, fun hx => hyn ((hm _).1 hx), fun hx => hzn ((hm _).1 hx)⟩
theorem forced_scan {L : List (List Int)} {A : List Int} (h : clashB L A = false) {u : List Int} (hu : u ∈ L) (hx : ∀ x ∈ u, x ≠ 0) : u.any (closeL L A).contains = true ∨ 2 ≤ openN (closeL L A) 0 u := by
  rcases (closed_closeL h).each u hu with ⟨y, hy, hF⟩ | ⟨y, z, hy, hz, hyz, ny, nz⟩
  · left
    rw [List.any_eq_true]
    exact ⟨y, hy, by simpa using hF⟩
  · exact .inr (openN_two hyz ny nz u 0 hy hz hx)
end Go.Proofs.YtahedhpffjgimaaDoor
