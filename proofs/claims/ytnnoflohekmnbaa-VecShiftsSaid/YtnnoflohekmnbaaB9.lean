/-
  slices.Equal at []uint64 and vec.Same over the translated program. Nothing is assumed.
-/
import Derived.Test.YtnnoflohekmnbaaProg
import Derived.WalkKit
import Derived.WalkSpells
import Derived.WalkLawsBesides
import Derived.LoopN
import Derived.IntWalk
import Derived.Lib.Hide
import Derived.Test.YtnnoflohekmnbaaB8
import Derived.Laws.BitsAllLaws
import Derived.Laws.Externs
import Derived.BigQuiet
import Derived.BigRegion
import Derived.Deep.QuietTactic
import Derived.Deep.RegionWith
import Derived.Deep.RegionHeld3
import Derived.StillTailTactics
import Derived.RegionTactic
import Derived.ChangeAlike
set_option linter.unusedVariables false
namespace Go.Proofs.Ytnnoflohekmnbaa
open Go.RowKit
set_option maxHeartbeats 400000 in
theorem Equal_one_yes (ad ad' : Addr) (c c' x : Nat) (w : World) (h : w.cell? ad = some (.int .u64 x)) (h' : w.cell? ad' = some (.int .u64 x)) :
    Calls Try.prog 39 #[.slice (some ad) 1 c, .slice (some ad') 1 c'] w (RetV w (.bool true)) := by
  go_enter Try.func39, Try.ntmps39
  go_wp2
  refine wp_loop_rounds 2 ?_
  rw [rounds_succ]; go_wp2_with fail
  go_quiet (fail)
  go_wp2
  rw [rounds_succ]; go_wp2
  go_ret
  exact ⟨rfl, by repeat (first | exact Below.refl _ _ | refine below_drewN ?_ _ | refine bal ?_ _)⟩
set_option maxHeartbeats 400000 in
theorem Equal_one_no (ad ad' : Addr) (c c' x x' : Nat) (w : World) (h : w.cell? ad = some (.int .u64 x)) (h' : w.cell? ad' = some (.int .u64 x')) (hx : x ≠ x') :
    Calls Try.prog 39 #[.slice (some ad) 1 c, .slice (some ad') 1 c'] w (RetV w (.bool false)) := by
  have d : ((x : Int) != (x' : Int)) = true := by rw [bne_iff_ne]; omega
  have d' : (x != x') = true := by rw [bne_iff_ne]; omega
  go_enter Try.func39, Try.ntmps39
  go_wp2
  refine wp_loop_rounds 2 ?_
  rw [rounds_succ]; go_wp2_with fail
  go_quiet (fail)
  go_wp2
  go_ret
  exact ⟨rfl, by repeat (first | exact Below.refl _ _ | refine below_drewN ?_ _ | refine bal ?_ _)⟩
set_option maxHeartbeats 400000 in
theorem Equal_two_yes (ad ad' : Addr) (c c' x y x' y' : Nat) (w : World) (h : w.cell? ad = some (.int .u64 x)) (h1 : w.cell? (ad.add 1) = some (.int .u64 y)) (h' : w.cell? ad' = some (.int .u64 x)) (h1' : w.cell? (ad'.add 1) = some (.int .u64 y)) :
    Calls Try.prog 39 #[.slice (some ad) 2 c, .slice (some ad') 2 c'] w (RetV w (.bool true)) := by
  have g1 : w.cell? ⟨ad.block, ad.off + 1, none⟩ = some (.int .u64 y) := h1
  have g1' : w.cell? ⟨ad'.block, ad'.off + 1, none⟩ = some (.int .u64 y) := h1'
  clear h1 h1'
  go_enter Try.func39, Try.ntmps39
  go_wp2
  refine wp_loop_rounds 3 ?_
  rw [rounds_succ]; go_wp2_with fail
  go_quiet (fail)
  go_wp2
  rw [rounds_succ]; go_wp2_with fail
  go_quiet (fail)
  go_wp2
  rw [rounds_succ]; go_wp2
  go_ret
  exact ⟨rfl, by repeat (first | exact Below.refl _ _ | refine below_drewN ?_ _ | refine bal ?_ _)⟩
set_option maxHeartbeats 400000 in
theorem Equal_two_no0 (ad ad' : Addr) (c c' x y x' y' : Nat) (w : World) (h : w.cell? ad = some (.int .u64 x)) (h1 : w.cell? (ad.add 1) = some (.int .u64 y)) (h' : w.cell? ad' = some (.int .u64 x')) (h1' : w.cell? (ad'.add 1) = some (.int .u64 y')) (hx : x ≠ x') :
    Calls Try.prog 39 #[.slice (some ad) 2 c, .slice (some ad') 2 c'] w (RetV w (.bool false)) := by
  have g1 : w.cell? ⟨ad.block, ad.off + 1, none⟩ = some (.int .u64 y) := h1
  have g1' : w.cell? ⟨ad'.block, ad'.off + 1, none⟩ = some (.int .u64 y') := h1'
  have d : ((x : Int) != (x' : Int)) = true := by rw [bne_iff_ne]; omega
  have d' : (x != x') = true := by rw [bne_iff_ne]; omega
  clear h1 h1'
  go_enter Try.func39, Try.ntmps39
  go_wp2
  refine wp_loop_rounds 3 ?_
  rw [rounds_succ]; go_wp2_with fail
  go_quiet (fail)
  go_wp2
  go_ret
  exact ⟨rfl, by repeat (first | exact Below.refl _ _ | refine below_drewN ?_ _ | refine bal ?_ _)⟩
set_option maxHeartbeats 400000 in
theorem Equal_two_no1 (ad ad' : Addr) (c c' x y x' y' : Nat) (w : World) (h : w.cell? ad = some (.int .u64 x)) (h1 : w.cell? (ad.add 1) = some (.int .u64 y)) (h' : w.cell? ad' = some (.int .u64 x)) (h1' : w.cell? (ad'.add 1) = some (.int .u64 y')) (hx : y ≠ y') :
    Calls Try.prog 39 #[.slice (some ad) 2 c, .slice (some ad') 2 c'] w (RetV w (.bool false)) := by
  have g1 : w.cell? ⟨ad.block, ad.off + 1, none⟩ = some (.int .u64 y) := h1
  have g1' : w.cell? ⟨ad'.block, ad'.off + 1, none⟩ = some (.int .u64 y') := h1'
  have d : ((y : Int) != (y' : Int)) = true := by rw [bne_iff_ne]; omega
  have d' : (y != y') = true := by rw [bne_iff_ne]; omega
  clear h1 h1'
  go_enter Try.func39, Try.ntmps39
  go_wp2
  refine wp_loop_rounds 3 ?_
  rw [rounds_succ]; go_wp2_with fail
  go_quiet (fail)
  go_wp2
  rw [rounds_succ]; go_wp2_with fail
  go_quiet (fail)
  go_wp2
  go_ret
  exact ⟨rfl, by repeat (first | exact Below.refl _ _ | refine below_drewN ?_ _ | refine bal ?_ _)⟩
theorem lmL_inj {W N K : Nat} (h : lmL W N = lmL W K) : N = K := by
  unfold lmL at h
  split at h
  · simpa using h
  · simp at h; omega
theorem Equal_any {w : World} {ad ad' : Addr} {c c' W N K : Nat} (h : Vc w w.heap.size ad c W N) (h' : Vc w w.heap.size ad' c' W K) :
    Calls Try.prog 39 #[.slice (some ad) (lm W) c, .slice (some ad') (lm W) c'] w (RetV w (.bool (N == K))) := by
  by_cases hW : W ≤ 64
  · obtain ⟨e, hn, hc, hb⟩ := h.one hW
    obtain ⟨e', hn', hc', hb'⟩ := h'.one hW
    rw [e]
    by_cases hx : N = K
    · subst hx
      have : (N == N) = true := by simp
      rw [this]
      exact Equal_one_yes ad ad' c c' N w hc hc'
    · have : (N == K) = false := by simp [hx]
      rw [this]
      exact Equal_one_no ad ad' c c' N K w hc hc' hx
  · obtain ⟨e, hc, hc1, hb⟩ := h.two hW
    obtain ⟨e', hc', hc1', hb'⟩ := h'.two hW
    rw [e]
    by_cases hx : N % 18446744073709551616 = K % 18446744073709551616
    · by_cases hy : N / 18446744073709551616 = K / 18446744073709551616
      · have : (N == K) = true := by rw [beq_iff_eq]; omega
        rw [this]
        rw [← hx] at hc'
        rw [← hy] at hc1'
        exact Equal_two_yes ad ad' c c' _ _ 0 0 w hc hc1 hc' hc1'
      · have : (N == K) = false := by rw [beq_eq_false_iff_ne]; omega
        rw [this]
        rw [← hx] at hc'
        exact Equal_two_no1 ad ad' c c' _ _ 0 _ w hc hc1 hc' hc1' hy
    · have : (N == K) = false := by rw [beq_eq_false_iff_ne]; omega
      rw [this]
      exact Equal_two_no0 ad ad' c c' _ _ _ _ w hc hc1 hc' hc1' hx
set_option maxHeartbeats 400000 in
theorem Same_wide (A A' : Value) (W V : Int) (w : World) (h : W ≠ V) : Calls Try.prog 21 #[.agg #[.int .i64 W, A], .agg #[.int .i64 V, A']] w (RetV w (.bool false)) := by
  have d : (W == V) = false := by simp [h]
  go_enter Try.func21, Try.ntmps21
  go_wp2
  go_ret
  exact ⟨rfl, by repeat (first | exact Below.refl _ _ | refine below_drewN ?_ _ | refine bal ?_ _)⟩
set_option maxHeartbeats 400000 in
theorem Same_any {w : World} {ad ad' : Addr} {c c' W N K : Nat} (h : Vc w w.heap.size ad c W N) (h' : Vc w w.heap.size ad' c' W K) :
    Calls Try.prog 21 #[.agg #[.int .i64 W, .slice (some ad) (lm W) c], .agg #[.int .i64 W, .slice (some ad') (lm W) c']] w (RetV w (.bool (N == K))) := by
  have hb0 : Below w.heap.size w ((w.alloc (.cells #[.int .i64 W, .slice (some ad) (lm W) c] 24)).alloc (.cells #[.int .i64 W, .slice (some ad') (lm W) c'] 24)) := bal (bal (Below.refl _ _) _) _
  have H := Lib.hid (Equal_any (h.nx hb0) (h'.nx hb0))
  have d : ((W : Int) == (W : Int)) = true := by simp
  generalize (N == K) = R at *
  generalize lm W = k at *
  clear h h'
  go_enter Try.func21, Try.ntmps21
  go_wp2_with fail
  refine H.out.mono ?_
  rintro e w1 ⟨rfl, hb⟩
  have hB := hb0.trans (hb.mono (by simp; omega))
  clear hb H hb0
  go_wp2
  go_ret
  exact ⟨rfl, hB⟩
end Go.Proofs.Ytnnoflohekmnbaa
