/-
  The reference's Bit and Bits over the translated program.
-/
import Derived.Test.YtnnoflohekmnbaaProg
import Derived.WalkKit
import Derived.WalkSpells
import Derived.WalkLawsBesides
import Derived.LoopN
import Derived.IntWalk
import Derived.Lib.Hide
import Derived.Test.YtnnoflohekmnbaaN7
import Derived.Test.YtnnoflohekmnbaaD1
import Derived.Laws.BitsAllLaws
import Derived.Laws.Externs
import Derived.BigQuiet
import Derived.BigRegion
import Derived.Deep.QuietTactic
import Derived.Deep.RegionWith
import Derived.Deep.RegionHeld3
import Derived.StillTailTactics
import Derived.RegionTactic
import Derived.ChangeAlike
set_option linter.unusedVariables false
namespace Go.Proofs.Ytnnoflohekmnbaa
open Go.RowKit
set_option maxHeartbeats 400000 in
theorem refBit_low (V : Value) (W i : Int) (w : World) (h : i < 0) : Calls Try.prog 18 #[.agg #[.int .i64 W, V], .int .i64 i] w (RetV w (.bool false)) := by
  have d1 : decide (i < 0) = true := decide_eq_true h
  go_enter Try.func18, Try.ntmps18
  go_wp2
  go_ret
  exact ⟨rfl, bal (Below.refl _ _) _⟩
set_option maxHeartbeats 400000 in
theorem refBit_high (V : Value) (W i : Int) (w : World) (h0 : 0 ≤ i) (h : W ≤ i) : Calls Try.prog 18 #[.agg #[.int .i64 W, V], .int .i64 i] w (RetV w (.bool false)) := by
  have h1 : decide (i < 0) = false := decide_eq_false (by omega)
  have h2 : decide (W ≤ i) = true := decide_eq_true h
  go_enter Try.func18, Try.ntmps18
  go_wp2
  go_ret
  exact ⟨rfl, bal (Below.refl _ _) _⟩
set_option maxHeartbeats 1000000 in
theorem refBit_walk (ad : Addr) (k c q r x : Nat) (R : Bool) (W i : Int) (w : World) (h0 : 0 ≤ i) (h1 : i < W) (hW : W ≤ 1000) (hq : i / 64 = (q : Int)) (hr : i % 64 = (r : Int)) (hk : q < k) (hx : x < 18446744073709551616) (hc : w.cell? (ad.add q) = some (.int .u64 x)) (hb : ad.block < w.heap.size)
    (hR : (((x / 2 ^ r % 2 : Nat) : Int) == 1) = R) : Calls Try.prog 18 #[.agg #[.int .i64 W, .slice (some ad) k c], .int .i64 i] w (RetV w (.bool R)) := by
  have hc' : (w.alloc (.cells #[.int .i64 W, .slice (some ad) k c] 24)).cell? (ad.add q) = some (.int .u64 x) := ((bal (Below.refl w.heap.size w) _).cell (by rw [block_add]; exact hb)).trans hc
  have d1 : decide (i < 0) = false := decide_eq_false (by omega)
  have d2 : decide (W ≤ i) = false := decide_eq_false (by omega)
  have H : Hid (∀ wx, Calls Try.prog 36 #[.int .i64 (r : Int)] wx fun e w' => e = .returned (.int .u64 ((2 ^ r : Nat) : Int)) ∧ w' = wx) := fun wx => (power_any r (by omega) wx).mono fun e w' ⟨he, hw⟩ => ⟨he, hw.symm⟩
  have hp : 0 < 2 ^ r := Nat.two_pow_pos r
  generalize 2 ^ r = P at *
  have HRR : Hid (((IntKind.u64.wrap ((x : Int) / (P : Int))).tmod 2 == 1) = R) := by
    show _ = _
    rw [dvN, wrN _ (Nat.lt_of_le_of_lt (Nat.div_le_self _ _) hx), Int.tmod_eq_emod_of_nonneg (Int.natCast_nonneg _), ← hR]
    rfl
  have d3 : ((P : Int) == 0) = false := by rw [beq_eq_false_iff_ne]; omega
  have hq1 : (q : Int) < (k : Int) := by omega
  have hq0 : 0 ≤ (q : Int) := by omega
  clear hc hb hR
  go_enter Try.func18, Try.ntmps18
  go_wp2_with fail
  go_quiet ((go_at_call 36; exact Calls.quiet_of_same (H.out _)))
  go_wp2
  go_ret
  exact ⟨by rw [← HRR.out]; simp, by repeat (first | exact Below.refl _ _ | refine below_drewN ?_ _ | refine bal ?_ _)⟩
theorem shr_mod (x r : Nat) : (((x / 2 ^ r % 2 : Nat) : Int) == 1) = x.testBit r := by
  rw [Nat.testBit_eq_decide_div_mod_eq, Bool.eq_iff_iff, beq_iff_eq, decide_eq_true_eq]
  omega
theorem refBit_any {w : World} {ad : Addr} {c W N : Nat} (h : Vc w w.heap.size ad c W N) (i : Int) : Calls Try.prog 18 #[.agg #[.int .i64 W, .slice (some ad) (lm W) c], .int .i64 i] w (RetV w (.bool (tb N i))) := by
  unfold tb
  by_cases h0 : i < 0
  · rw [if_pos h0]; exact refBit_low _ _ _ w h0
  · rw [if_neg h0]
    by_cases h1 : (W : Int) ≤ i
    · have : N.testBit i.toNat = false := Nat.testBit_lt_two_pow (Nat.lt_of_lt_of_le h.n (Nat.pow_le_pow_right (by omega) (by omega)))
      rw [this]
      exact refBit_high _ _ _ w (by omega) h1
    · have h2 := h.w2
      obtain ⟨x, hc, hx, hb, ht⟩ := h.limb (i.toNat / 64) (by unfold lm; omega)
      have e : N.testBit i.toNat = x.testBit (i.toNat % 64) := by
        rw [← ht _ (by omega)]; congr 1; omega
      rw [e]
      exact refBit_walk ad (lm W) c (i.toNat / 64) (i.toNat % 64) x _ W i w (by omega) (by omega) (by omega) (by omega) (by omega) (by unfold lm; omega) hx hc hb (shr_mod x _)
theorem OwnB.base {w : World} {B B' : Nat} {v : Value} {l : List Bool} (h : OwnB w B v l) (hB : B' ≤ B) : OwnB w B' v l := by
  unfold OwnB at *
  refine ⟨h.1, ?_⟩
  rcases h.2 with h' | ⟨g, cap, cur, hv, hg, r⟩
  · exact .inl h'
  · exact .inr ⟨g, cap, cur, hv, Nat.le_trans hB hg, r⟩
theorem bl_take (W N j : Nat) (h : j < W) : (bl W N).take j ++ [N.testBit j] = (bl W N).take (j + 1) := by
  rw [take_succ_ _ j (by rw [bl_len]; exact h), bl_get, decide_eq_true h, Bool.true_and]
set_option maxRecDepth 100000 in
set_option maxHeartbeats 800000 in
theorem refBits_any {w : World} {ad : Addr} {c W N : Nat} (h : Vc w w.heap.size ad c W N) :
    Calls Try.prog 41 #[.agg #[.int .i64 W, .slice (some ad) (lm W) c]] w (RetBs w W N) := by
  suffices H : Calls Try.prog 41 #[.agg #[.int .i64 W, .slice (some ad) (lm W) c]] w (fun e w' => ∃ v, e = .returned v ∧ OwnB w' w.heap.size v (bl W N) ∧ Below w.heap.size w w') from
    H.mono fun e w' ⟨v, he, ho, hb⟩ => ⟨v, _, he, bl_len W N, nb_bl_lt h.n, ho, hb⟩
  have h2 := h.w2
  have hB0 := bal (Below.refl w.heap.size w) (.cells #[.int .i64 W, .slice (some ad) (lm W) c] 24)
  have hc0 : (w.alloc (.cells #[.int .i64 W, .slice (some ad) (lm W) c] 24)).cell? ⟨w.heap.size, 0, none⟩ = some (.int .i64 W) := by go_simp
  have hc1 : (w.alloc (.cells #[.int .i64 W, .slice (some ad) (lm W) c] 24)).cell? ⟨w.heap.size, 1, none⟩ = some (.slice (some ad) (lm W) c) := by go_simp
  have hs0 : w.heap.size < (w.alloc (.cells #[.int .i64 W, .slice (some ad) (lm W) c] 24)).heap.size := by simp
  have HV := Lib.hid (h.nx hB0)
  generalize hw1 : w.alloc (.cells #[.int .i64 W, .slice (some ad) (lm W) c] 24) = w1 at *
  have HW1 := Lib.hid hw1
  clear hw1 h
  go_enter Try.func41, Try.ntmps41
  go_wp2
  rw [HW1.out]
  go_loopw [3, 4] (fun v i wr => ∃ (j : Nat), j ≤ W ∧ i = .int .i64 j ∧ OwnB wr w1.heap.size v ((bl W N).take j) ∧ Below w1.heap.size w1 wr) (fun _ i _ => W - (intOf i).toNat)
  case atStart => exact ⟨0, Nat.zero_le _, rfl, OwnB.nil _ _, Below.refl _ _⟩
  case round =>
    obtain ⟨j, hj, rfl, hown, hb⟩ := hrel
    have p0 := (hb.cell (p := ⟨w.heap.size, 0, none⟩) hs0).trans hc0
    have p1 := (hb.cell (p := ⟨w.heap.size, 1, none⟩) hs0).trans hc1
    have ps : w.heap.size < wr.heap.size := by have := hb.size; omega
    by_cases hlt : j < W
    · have C := refBit_any (HV.out.nx hb) (j : Int)
      rw [show tb N (j : Int) = N.testBit j by unfold tb; rw [if_neg (by omega)]; rfl] at C
      have HE := Lib.hid (bl_take W N j hlt)
      have hl : ((bl W N).take j).length = j := by rw [List.length_take, bl_len]; omega
      generalize (bl W N).take j = o at *
      generalize N.testBit j = x at *
      have HB := Lib.hid hb
      have HO := Lib.hid hown
      clear hb hown
      go_wp2_with fail
      refine C.mono ?_; rintro e w2 ⟨rfl, hb2⟩
      have hB2 := bnxB HB.out hb2
      have hO2 := HO.out.old hb2
      clear C HB HO hb2 p0 p1
      go_wp2_with (first
        | (at_builtin; refine wpB1 rfl (.tmp 11) (.tmp 15) rfl _ o rfl hO2 x rfl hB2 ?c1 ?_))
      case c1 => omega
      intro v' w3 hown' hb'
      go_wp2
      go_roundw
      case rel => exact ⟨j + 1, by omega, by go_num, by rw [← HE.out]; exact hown', hb'⟩
      case measure => simp [intOf]; omega
    · obtain rfl : j = W := by omega
      rw [List.take_of_length_le (by rw [bl_len]; exact Nat.le_refl _)] at hown
      go_wp2
      go_ret
      refine ⟨_, rfl, ?_, bnxB hB0 hb⟩
      exact hown.base (by omega)
end Go.Proofs.Ytnnoflohekmnbaa
