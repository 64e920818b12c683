/-
  vec.Make over the translated program. Nothing is assumed.
-/
import Derived.Test.YtnnoflohekmnbaaProg
import Derived.WalkKit
import Derived.WalkSpells
import Derived.WalkLawsBesides
import Derived.LoopN
import Derived.IntWalk
import Derived.Lib.Hide
import Derived.Test.YtnnoflohekmnbaaC5
import Derived.Laws.BitsAllLaws
import Derived.Laws.Externs
import Derived.BigQuiet
import Derived.BigRegion
import Derived.Deep.QuietTactic
import Derived.Deep.RegionWith
import Derived.Deep.RegionHeld3
import Derived.StillTailTactics
import Derived.RegionTactic
import Derived.ChangeAlike
set_option linter.unusedVariables false
namespace Go.Proofs.Ytnnoflohekmnbaa
open Go.RowKit
theorem str_at (s : ByteArray) (j : Nat) (hj : j < s.size) (w : World) : (Instr.index 9 (.string s) (.int .i64 (j : Int))).run Try.prog w = .ok (.int .u8 ((s.data.toList.getD j 0).toNat : Int)) w := by
  have e : s.data.toList.getD j 0 = s[j] := by
    have hj' : j < s.data.size := hj
    rw [List.getD_eq_getElem?_getD, Array.getElem?_toList, Array.getElem?_eq_getElem hj', Option.getD_some]
    rfl
  rw [e, run_index_string w 9 s .i64 j Try.underlying9]
  simp [hj]
/-- What a text's figures make, the highest first. -/
def mkR : Nat → List UInt8 → Nat
  | acc, [] => acc
  | acc, c :: t => if c = 49 then mkR (acc ||| 2 ^ t.length) t else mkR acc t
/-- Is there something but 0 and 1? -/
def mkBad : List UInt8 → Bool
  | [] => false
  | c :: t => if c = 48 ∨ c = 49 then mkBad t else true
theorem mkBad_no (v : UInt8) (t : List UInt8) (h1 : v ≠ 48) (h2 : v ≠ 49) : mkBad (v :: t) = true := by
  rw [mkBad, if_neg (by simp [h1, h2])]
theorem drop_at (l : List UInt8) (k : Nat) (h : k < l.length) : l.drop k = l.getD k 0 :: l.drop (k + 1) := by
  rw [List.drop_eq_getElem_cons h]; simp [List.getD, h]
/-- The world of vec.Make. -/
structure MkW (w wr : World) (x y : Nat) : Prop where
  bel : Below w.heap.size w wr
  sz : w.heap.size + 2 ≤ wr.heap.size
  fr : Duo wr w.heap.size (.int .i64 0) (.slice none 0 0)
  fn : Two wr (w.heap.size + 1) x y
theorem MkW.first (w : World) : MkW w ((w.alloc (.cells #[.int .i64 0, .slice none 0 0] 24)).alloc (.cells #[.int .u64 0, .int .u64 0] 62)) 0 0 := by
  refine ⟨bal (bal (Below.refl _ _) _) _, by simp, ⟨?_, ?_, ?_, ?_⟩, ⟨?_, ?_, ?_, ?_⟩⟩ <;> go_simp
theorem MkW.nx {w wr w1 : World} {x y : Nat} (h : MkW w wr x y) (hb : Below wr.heap.size wr w1) : MkW w w1 x y := by
  have hs := h.sz
  exact ⟨h.bel.trans (hb.mono (by omega)), by have := hb.size; omega, h.fr.below hb (by omega), h.fn.below hb (by omega)⟩
theorem MkW.store {w wr : World} {x y : Nat} (h : MkW w wr x y) (u v : Nat) : MkW w ((wr.setCell ⟨w.heap.size + 1, 0, none⟩ (.int .u64 u)).setCell ⟨w.heap.size + 1, 1, none⟩ (.int .u64 v)) u v := by
  have hd := h.fr
  exact ⟨(h.bel.setCell (by simp) _).setCell (by simp) _, by simpa using h.sz, ⟨(cell_other (p := ⟨w.heap.size, 0, none⟩) (by simp) _ _).trans hd.1, (cell_other (p := ⟨w.heap.size, 1, none⟩) (by simp) _ _).trans hd.2.1, by simp [hd.2.2.1], by simp [hd.2.2.2]⟩, h.fn.store u v⟩
theorem MkW.parts {w wr : World} {x y : Nat} (h : MkW w wr x y) : (wr.cell? ⟨w.heap.size, 0, none⟩ = some (.int .i64 0) ∧ wr.cell? ⟨w.heap.size, 1, none⟩ = some (.slice none 0 0) ∧ wr.frozen? ⟨w.heap.size, 0, none⟩ = false ∧ wr.frozen? ⟨w.heap.size, 1, none⟩ = false) ∧
    (wr.cell? ⟨w.heap.size + 1, 0, none⟩ = some (.int .u64 x) ∧ wr.cell? ⟨w.heap.size + 1, 1, none⟩ = some (.int .u64 y) ∧ wr.frozen? ⟨w.heap.size + 1, 0, none⟩ = false ∧ wr.frozen? ⟨w.heap.size + 1, 1, none⟩ = false) ∧ w.heap.size + 1 < wr.heap.size ∧ w.heap.size < wr.heap.size :=
  ⟨h.fr, h.fn, by have := h.sz; omega, by have := h.sz; omega⟩
set_option maxHeartbeats 400000 in
theorem Make_len (s : ByteArray) (w : World) (h : s.size < 1 ∨ 128 < s.size) : Calls Try.prog 12 #[.string s] w (RetErr w 2) := by
  have hc : decide ((s.size : Int) < 1) = true ∨ (decide ((s.size : Int) < 1) = false ∧ decide ((128 : Int) < s.size) = true) := by
    simp only [decide_eq_true_eq, decide_eq_false_iff_not]; omega
  clear h
  rcases hc with d1 | ⟨d1, d2⟩
  all_goals
    go_enter Try.func12, Try.ntmps12
    go_wp2
    refine bodyPost_ret (v := .tuple #[.agg #[.int .i64 0, .slice none 0 0], .int .i64 2]) (by simp [results, Try.results12, go_sem]) rfl ⟨rfl, ?_⟩
    repeat (first | exact Below.refl _ _ | refine below_drewN ?_ _ | refine bal ?_ _)
/-- Where the loop of vec.Make stands: R, if nothing is wrong. -/
def MkRel (w : World) (l : List UInt8) (R : Option Nat) (j : Nat) (wr : World) : Prop :=
  ∃ x y acc : Nat, Lim x y acc ∧ MkW w wr x y ∧ (if mkBad (l.drop j) then none else some (mkR acc (l.drop j))) = R
set_option maxRecDepth 100000 in
set_option maxHeartbeats 2000000 in
theorem Make_walk (s : ByteArray) (w : World) (h1 : 1 ≤ s.size) (h2 : s.size ≤ 128) (R : Option Nat) (hR : (if mkBad s.data.toList then none else some (mkR 0 s.data.toList)) = R) :
    Calls Try.prog 12 #[.string s] w fun e w' => (R = none ∧ RetErr w 2 e w') ∨ ∃ N, R = some N ∧ RetVE w s.size (N % 2 ^ s.size) e w' := by
  have d1 : decide ((s.size : Int) < 1) = false := decide_eq_false (by omega)
  have d2 : decide ((128 : Int) < s.size) = false := decide_eq_false (by omega)
  have HZ : Hid (s.data.toList.length = s.size) := by show _ = _; rw [Array.length_toList]; rfl
  have HR := Lib.hid hR
  have H0 := Lib.hid (MkW.first w)
  clear hR
  go_enter Try.func12, Try.ntmps12
  go_wp2
  go_loopw [17] (fun t wr => ∃ j : Nat, j ≤ s.size ∧ t = .int .i64 j ∧ MkRel w s.data.toList R j wr) (fun t _ => s.size - (intOf t).toNat)
  case atStart => exact ⟨0, by omega, rfl, 0, 0, 0, Lim.zero, H0.out, HR.out⟩
  case round =>
    obtain ⟨j, hj, rfl, x, y, acc, L, hW, hJ⟩ := hrel
    obtain ⟨⟨p1, p2, p3, p4⟩, ⟨p5, p6, p7, p8⟩, pz, pz2⟩ := hW.parts
    by_cases hlt : j < s.size
    · have hix := fun wx => str_at s j hlt wx
      have hj1 : s.size - (j + 1) = (s.data.toList.drop (j + 1)).length := by rw [List.length_drop, HZ.out]
      rw [drop_at _ j (by rw [HZ.out]; exact hlt)] at hJ
      have hJ' := Lib.hid hJ
      have HJ1 := Lib.hid hj1
      clear hJ hj1
      generalize hv : s.data.toList.getD j 0 = v at *
      clear hv
      by_cases c48 : v = 48
      · subst c48
        have HE : Hid ((if mkBad (s.data.toList.drop (j + 1)) then none else some (mkR acc (s.data.toList.drop (j + 1)))) = R) := hJ'.out
        clear hJ'
        go_wp2
        go_roundw
        case rel => exact ⟨j + 1, by omega, by go_num, x, y, acc, L, hW, HE.out⟩
        case measure => simp [intOf]; omega
      · by_cases c49 : v = 49
        · subst c49
          have HE : Hid ((if mkBad (s.data.toList.drop (j + 1)) then none else some (mkR (acc ||| 2 ^ (s.size - (j + 1))) (s.data.toList.drop (j + 1)))) = R) := by
            rw [HJ1.out]; exact hJ'.out
          clear hJ' HJ1
          go_wp2_with fail
          refine (with_at L _ (s.size - (j + 1)) (by omega) (by omega) _).mono ?_
          rintro e w1 ⟨x1, y1, L1, rfl, hb1⟩
          have hW1 := hW.nx hb1
          clear p1 p2 p3 p4 p5 p6 p7 p8 pz pz2 hb1
          obtain ⟨⟨p1, p2, p3, p4⟩, ⟨p5, p6, p7, p8⟩, pz, pz2⟩ := hW1.parts
          go_wp2
          go_roundw
          case rel => exact ⟨j + 1, by omega, by go_num, x1, y1, _, L1, hW1.store x1 y1, HE.out⟩
          case measure => simp [intOf]; omega
        · have HN : Hid (R = none) := by
            have := hJ'.out
            rw [mkBad_no _ _ c48 c49, if_pos rfl] at this
            exact this.symm
          have e48 : ((v.toNat : Int) == 48) = false := by
            rw [beq_eq_false_iff_ne]; intro e; apply c48; apply UInt8.toNat_inj.1; show v.toNat = 48; omega
          have e49 : ((v.toNat : Int) == 49) = false := by
            rw [beq_eq_false_iff_ne]; intro e; apply c49; apply UInt8.toNat_inj.1; show v.toNat = 49; omega
          clear hJ' HJ1 c48 c49
          go_wp2
          refine bodyPost_ret (v := .tuple #[.agg #[.int .i64 0, .slice none 0 0], .int .i64 2]) (by simp [results, Try.results12, go_sem, *]) rfl (Or.inl ⟨HN.out, rfl, ?_⟩)
          exact (hW.bel.setCell (by simp) _).setCell (by simp) _
    · obtain rfl : j = s.size := by omega
      have HE : Hid (R = some acc) := by
        have : s.data.toList.drop s.size = [] := List.drop_of_length_le (by rw [HZ.out]; omega)
        rw [this] at hJ
        exact hJ.symm
      clear hJ
      go_wp2_with fail
      refine (vecOf_any L s.size h1 h2 _).mono ?_
      rintro e w1 ⟨ad1, c1, rfl, hv1, hf1, hb1⟩
      have hW1 := hW.nx hb1
      clear p1 p2 p3 p4 p5 p6 p7 p8 pz pz2
      obtain ⟨⟨p1, p2, p3, p4⟩, ⟨p5, p6, p7, p8⟩, pz, pz2⟩ := hW1.parts
      go_wp2
      refine bodyPost_ret (v := .tuple #[.agg #[.int .i64 (s.size : Int), .slice (some ad1) (lm s.size) c1], .int .i64 0]) (by simp [results, Try.results12, go_sem, *]) rfl (Or.inr ⟨acc, HE.out, ?_⟩)
      exact RetVE.mk (W := s.size) hv1 hW1.bel (by omega) (by have := hW.sz; omega)
theorem Make_bad (s : ByteArray) (w : World) (h1 : 1 ≤ s.size) (h2 : s.size ≤ 128) (hb : mkBad s.data.toList = true) : Calls Try.prog 12 #[.string s] w (RetErr w 2) :=
  (Make_walk s w h1 h2 none (by rw [if_pos hb])).mono fun e w' h => by
    rcases h with ⟨_, h⟩ | ⟨N, h, _⟩
    · exact h
    · cases h
theorem Make_ok (s : ByteArray) (w : World) (h1 : 1 ≤ s.size) (h2 : s.size ≤ 128) (hb : mkBad s.data.toList = false) : Calls Try.prog 12 #[.string s] w (RetVE w s.size (mkR 0 s.data.toList % 2 ^ s.size)) :=
  (Make_walk s w h1 h2 (some (mkR 0 s.data.toList)) (by rw [if_neg (by simp [hb])])).mono fun e w' h => by
    rcases h with ⟨h, _⟩ | ⟨N, h, k⟩
    · cases h
    · cases h; exact k
end Go.Proofs.Ytnnoflohekmnbaa
