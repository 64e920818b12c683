/-
  VecParts inside
-/
import Derived.Test.YtnnoflohekmnbaaProg
import Derived.WalkKit
import Derived.WalkSpells
import Derived.WalkLawsBesides
import Derived.LoopN
import Derived.IntWalk
import Derived.Lib.Hide
import Derived.Test.YtnnoflohekmnbaaG3
import Derived.Test.YtnnoflohekmnbaaG2yy
import Derived.Test.YtnnoflohekmnbaaG2yn
import Derived.Test.YtnnoflohekmnbaaG2ny
import Derived.Test.YtnnoflohekmnbaaG2nn
import Derived.Laws.BitsAllLaws
import Derived.Laws.Externs
import Derived.BigQuiet
import Derived.BigRegion
import Derived.Deep.QuietTactic
import Derived.Deep.RegionWith
import Derived.Deep.RegionHeld3
import Derived.StillTailTactics
import Derived.RegionTactic
import Derived.ChangeAlike
import Derived.Deep.DeepCutAuto
set_option linter.unusedVariables false
namespace Go.Proofs.Ytnnoflohekmnbaa
open Go.RowKit
theorem parts_in {w : World} {ad ad' : Addr} {c c' W V N K : Nat} (h : Vc w w.heap.size ad c W N) (h' : Vc w w.heap.size ad' c' V K) (i n : Int) (hi : -9223372036854775808 ≤ i ∧ i ≤ 9223372036854775807) (hn : -9223372036854775808 ≤ n ∧ n ≤ 9223372036854775807) :
    Calls Try.prog 9 #[.agg #[.int .i64 W, .slice (some ad) (lm W) c, .int .i64 V, .slice (some ad') (lm V) c', .int .i64 i, .int .i64 n]] w (RetV w (.bool true)) := by
  have a1 := h.w1
  have a2 := h.w2
  have b1 := h'.w1
  have b2 := h'.w2
  have ws : IntKind.i64.wrap ((W : Int) + (V : Int)) = (W : Int) + (V : Int) := w64 _ (by omega) (by omega)
  have e1 : IntKind.i64.wrap ((W : Int) - 1) = ((W - 1 : Nat) : Int) := by rw [w64 _ (by omega) (by omega)]; omega
  have HC : decide (i < 1) = true ∨ (decide (i < 1) = false ∧ decide ((W : Int) ≤ i) = true) ∨ ∃ t t1 m1 : Nat, i = (t : Int) ∧ (t ≤ W - 1 ∧ W - 1 < W ∧ W - 1 + 1 = m1 + t ∧ t1 < W ∧ t1 + 1 = t ∧ m1 + t = W) ∧ f_cat m1 t (N / 2 ^ t % 2 ^ m1) (N % 2 ^ t) = N ∧ decide (i < 1) = false ∧ decide ((W : Int) ≤ i) = false ∧ IntKind.i64.wrap (i - 1) = (t1 : Int) := by
    by_cases c1 : i < 1
    · exact Or.inl (decide_eq_true c1)
    · by_cases c2 : (W : Int) ≤ i
      · exact Or.inr (Or.inl ⟨decide_eq_false c1, decide_eq_true c2⟩)
      · refine Or.inr (Or.inr ⟨i.toNat, i.toNat - 1, W - i.toNat, by omega, ⟨by omega, by omega, by omega, by omega, by omega, by omega⟩, ?_, decide_eq_false c1, decide_eq_false c2, ?_⟩)
        · exact cat_eq (by omega) (by rw [show W - i.toNat + i.toNat = W by omega]; exact h.n)
        · rw [w64 _ (by omega) (by omega)]; omega
  have HCh := Lib.hid HC
  have HE : ¬ (0 ≤ n ∧ n ≤ 128 - (W : Int)) → ∀ (X : Value) (wx : World) (_ : True), Calls Try.prog 28 #[.agg #[.int .i64 W, X], .int .i64 n, .bool true] wx (RetErr wx 5) := by
    intro hh X wx _
    by_cases c1 : n < 0
    · exact Ext_erra X W n true wx c1
    · exact Ext_errb X W n true wx (by omega) (by omega) (by omega) (by omega)
  by_cases hA : W + V ≤ 128
  · by_cases hB : 0 ≤ n ∧ n ≤ 128 - (W : Int)
    · exact parts_yy h h' i n n.toNat (W + V) (txt W N) (txt V K) (Lib.hid rfl) (Lib.hid hA) (Lib.hid rfl) (Lib.hid rfl) (Lib.hid (txt_cat hA h'.n)) (by rw [txt_size, txt_size]; omega) (decide_eq_true (by omega)) (Lib.hid (by omega)) (W + n.toNat) (Lib.hid rfl) (Lib.hid (by omega)) (Lib.hid (ext_back a2 h.n)) (Lib.hid ⟨by omega, by omega⟩) (by rw [w64 _ (by omega) (by omega)]; omega) (by simp) ws e1 (Lib.hid a2) HCh
    · exact parts_yn h h' i n (W + V) (txt W N) (txt V K) (Lib.hid rfl) (Lib.hid hA) (Lib.hid rfl) (Lib.hid rfl) (Lib.hid (txt_cat hA h'.n)) (by rw [txt_size, txt_size]; omega) (decide_eq_true (by omega)) (Lib.hid (HE hB)) ws e1 (Lib.hid a2) HCh
  · by_cases hB : 0 ≤ n ∧ n ≤ 128 - (W : Int)
    · exact parts_ny h h' i n n.toNat (Lib.hid (by omega)) (decide_eq_false (by omega)) (Lib.hid (by omega)) (W + n.toNat) (Lib.hid rfl) (Lib.hid (by omega)) (Lib.hid (ext_back a2 h.n)) (Lib.hid ⟨by omega, by omega⟩) (by rw [w64 _ (by omega) (by omega)]; omega) (by simp) ws e1 (Lib.hid a2) HCh
    · exact parts_nn h h' i n (Lib.hid (by omega)) (decide_eq_false (by omega)) (Lib.hid (HE hB)) ws e1 (Lib.hid a2) HCh
end Go.Proofs.Ytnnoflohekmnbaa
