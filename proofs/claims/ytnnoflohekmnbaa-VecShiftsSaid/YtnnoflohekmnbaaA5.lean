/-
  vec.places and vec.times over the translated program: what each call returns. Nothing is assumed.
-/
import Derived.Test.YtnnoflohekmnbaaProg
import Derived.WalkKit
import Derived.WalkSpells
import Derived.WalkLawsBesides
import Derived.LoopN
import Derived.IntWalk
import Derived.Lib.Hide
import Derived.Test.YtnnoflohekmnbaaA4
import Derived.Laws.BitsAllLaws
import Derived.Laws.Externs
import Derived.BigQuiet
import Derived.BigRegion
import Derived.Deep.QuietTactic
import Derived.Deep.RegionWith
import Derived.Deep.RegionHeld3
import Derived.StillTailTactics
import Derived.RegionTactic
import Derived.ChangeAlike
set_option linter.unusedVariables false
namespace Go.Proofs.Ytnnoflohekmnbaa
open Go.RowKit
set_option maxHeartbeats 400000 in
theorem places_any {a b N : Nat} (h : Lim a b N) (W : Nat) (hW : W ≤ 128) (w : World) : Calls Try.prog 96 #[.agg #[.int .u64 a, .int .u64 b], .int .i64 W] w (RetV w (.int .i64 ((min N W : Nat) : Int))) := by
  have cL := fun wx => less_any h (Lim.small W (by omega)) wx
  have HL := Lib.hid cL
  clear cL
  by_cases hlt : N < W
  · have hN : a = N ∧ b = 0 := by obtain ⟨h1, h2, h3⟩ := h; omega
    obtain ⟨rfl, rfl⟩ := hN
    have hm : min a W = a := by omega
    have hd : decide (a < W) = true := decide_eq_true hlt
    rw [hm]
    go_enter Try.func96, Try.ntmps96
    go_wp2_with fail
    refine (HL.out _).mono ?_; rintro e w1 ⟨rfl, hb⟩
    rw [hd]
    have hc := hb.cell (p := ⟨w.heap.size, 0, none⟩) (by simp)
    have hc2 : w1.cell? ⟨w.heap.size, 0, none⟩ = some (.int .u64 a) := by rw [hc]; go_simp
    have hB : Below w.heap.size w w1 := (bal (Below.refl _ _) _).trans (hb.mono (by simp))
    clear hb hc HL hd hm
    go_wp2
    go_ret
    exact ⟨rfl, hB⟩
  · have hm : min N W = W := by omega
    have hd : decide (N < W) = false := decide_eq_false hlt
    rw [hm]
    go_enter Try.func96, Try.ntmps96
    go_wp2_with fail
    refine (HL.out _).mono ?_; rintro e w1 ⟨rfl, hb⟩
    rw [hd]
    have hB : Below w.heap.size w w1 := (bal (Below.refl _ _) _).trans (hb.mono (by simp))
    clear hb HL hd hm
    go_wp2
    go_ret
    exact ⟨rfl, hB⟩
/-- Block g holds the two limbs a and b. -/
def Two (w : World) (g a b : Nat) : Prop := w.cell? ⟨g, 0, none⟩ = some (.int .u64 a) ∧ w.cell? ⟨g, 1, none⟩ = some (.int .u64 b) ∧ w.frozen? ⟨g, 0, none⟩ = false ∧ w.frozen? ⟨g, 1, none⟩ = false
theorem Two.below {w w' : World} {B g a b : Nat} (h : Two w g a b) (hb : Below B w w') (hg : g < B) : Two w' g a b := by
  obtain ⟨h1, h2, h3, h4⟩ := h
  exact ⟨(hb.cell (p := ⟨g, 0, none⟩) hg).trans h1, (hb.cell (p := ⟨g, 1, none⟩) hg).trans h2, (hb.frozen (p := ⟨g, 0, none⟩) hg).trans h3, (hb.frozen (p := ⟨g, 1, none⟩) hg).trans h4⟩
theorem Two.store {w : World} {g a b : Nat} (h : Two w g a b) (x y : Nat) : Two ((w.setCell ⟨g, 0, none⟩ (.int .u64 x)).setCell ⟨g, 1, none⟩ (.int .u64 y)) g x y := by
  obtain ⟨h1, h2, h3, h4⟩ := h
  refine ⟨?_, ?_, by simp [h3], by simp [h4]⟩
  · rw [World.cell?_setCell_other _ _ _ _ (by simp)]; exact World.cell?_setCell_same _ _ _ h1
  · exact World.cell?_setCell_same _ _ _ ((World.cell?_setCell_other _ _ _ _ (by simp)).trans h2)
theorem Two.other {w : World} {g k a b : Nat} (h : Two w k a b) (hk : k ≠ g) (u v : Value) : Two ((w.setCell ⟨g, 0, none⟩ u).setCell ⟨g, 1, none⟩ v) k a b := by
  obtain ⟨h1, h2, h3, h4⟩ := h
  have hk' : g ≠ k := Ne.symm hk
  have e0 : ∀ i j : Nat, (⟨g, i, none⟩ : Addr) ≠ ⟨k, j, none⟩ := fun i j e => hk' (congrArg Addr.block e)
  refine ⟨?_, ?_, by simp [h3], by simp [h4]⟩
  · rw [World.cell?_setCell_other _ _ _ _ (e0 _ _), World.cell?_setCell_other _ _ _ _ (e0 _ _)]; exact h1
  · rw [World.cell?_setCell_other _ _ _ _ (e0 _ _), World.cell?_setCell_other _ _ _ _ (e0 _ _)]; exact h2
/-- What the first j rounds of the one loop have summed up. -/
def timesS (a b c d j : Nat) : Nat := if j = 0 then 0 else if j = 1 then a * c else a * c + a * d * 18446744073709551616
/-- The world of vec.times: both factors, and what is summed up so far. -/
structure TimesW (w wr : World) (a b c d x y : Nat) : Prop where
  bel : Below w.heap.size w wr
  sz : w.heap.size + 4 ≤ wr.heap.size
  fa : Two wr w.heap.size a b
  fb : Two wr (w.heap.size + 1) c d
  fr : Two wr (w.heap.size + 1 + 1) 0 0
  fo : Two wr (w.heap.size + 1 + 1 + 1) x y
theorem TimesW.next {w wr w1 : World} {a b c d x y n : Nat} (h : TimesW w wr a b c d x y) (hb : Below (wr.drewN n).drew.heap.size (wr.drewN n).drew w1) : TimesW w w1 a b c d x y := by
  have hb' : Below wr.heap.size wr w1 := ⟨hb.os, hb.tape, hb.output, hb.size, hb.block⟩
  have hs := h.sz
  exact ⟨h.bel.trans (hb'.mono (by omega)), by have := hb'.size; omega, h.fa.below hb' (by omega), h.fb.below hb' (by omega), h.fr.below hb' (by omega), h.fo.below hb' (by omega)⟩
theorem TimesW.nx {w wr w1 : World} {a b c d x y : Nat} (h : TimesW w wr a b c d x y) (hb : Below wr.heap.size wr w1) : TimesW w w1 a b c d x y := by
  have hs := h.sz
  exact ⟨h.bel.trans (hb.mono (by omega)), by have := hb.size; omega, h.fa.below hb (by omega), h.fb.below hb (by omega), h.fr.below hb (by omega), h.fo.below hb (by omega)⟩
theorem TimesW.store {w wr : World} {a b c d x y : Nat} (h : TimesW w wr a b c d x y) (u v : Nat) : TimesW w ((wr.setCell ⟨w.heap.size + 1 + 1 + 1, 0, none⟩ (.int .u64 u)).setCell ⟨w.heap.size + 1 + 1 + 1, 1, none⟩ (.int .u64 v)) a b c d u v :=
  ⟨(h.bel.setCell (by simp; omega) _).setCell (by simp; omega) _, by simpa using h.sz, h.fa.other (by omega) _ _, h.fb.other (by omega) _ _, h.fr.other (by omega) _ _, h.fo.store u v⟩
theorem TimesW.first (w : World) (a b c d : Nat) : TimesW w ((((w.alloc (.cells #[.int .u64 a, .int .u64 b] 62)).alloc (.cells #[.int .u64 c, .int .u64 d] 62)).alloc (.cells #[.int .u64 0, .int .u64 0] 62)).alloc (.cells #[.int .u64 0, .int .u64 0] 62)) a b c d 0 0 := by
  refine ⟨bal (bal (bal (bal (Below.refl _ _) _) _) _) _, by simp, ⟨?_, ?_, ?_, ?_⟩, ⟨?_, ?_, ?_, ?_⟩, ⟨?_, ?_, ?_, ?_⟩, ⟨?_, ?_, ?_, ?_⟩⟩ <;> go_simp
theorem TimesW.parts {w wr : World} {a b c d x y : Nat} (h : TimesW w wr a b c d x y) :
    wr.cell? ⟨w.heap.size, 0, none⟩ = some (.int .u64 a) ∧ wr.cell? ⟨w.heap.size, 1, none⟩ = some (.int .u64 b) ∧ wr.cell? ⟨w.heap.size + 1, 0, none⟩ = some (.int .u64 c) ∧ wr.cell? ⟨w.heap.size + 1, 1, none⟩ = some (.int .u64 d) ∧
    wr.cell? ⟨w.heap.size + 1 + 1 + 1, 0, none⟩ = some (.int .u64 x) ∧ wr.cell? ⟨w.heap.size + 1 + 1 + 1, 1, none⟩ = some (.int .u64 y) ∧ wr.frozen? ⟨w.heap.size + 1 + 1 + 1, 0, none⟩ = false ∧ wr.frozen? ⟨w.heap.size + 1 + 1 + 1, 1, none⟩ = false ∧ w.heap.size + 4 ≤ wr.heap.size ∧ Hid (Below w.heap.size w wr) ∧ (wr.cell? ⟨w.heap.size + 1 + 1, 0, none⟩ = some (.int .u64 0) ∧ wr.cell? ⟨w.heap.size + 1 + 1, 1, none⟩ = some (.int .u64 0) ∧ wr.frozen? ⟨w.heap.size + 1 + 1, 0, none⟩ = false ∧ wr.frozen? ⟨w.heap.size + 1 + 1, 1, none⟩ = false) :=
  ⟨h.fa.1, h.fa.2.1, h.fb.1, h.fb.2.1, h.fo.1, h.fo.2.1, h.fo.2.2.1, h.fo.2.2.2, h.sz, h.bel, h.fr⟩
theorem timesS_next (a b c d j S P x1 : Nat) (h : timesS a b c d (j + 1) = timesS a b c d j + P) : (timesS a b c d j % 2 ^ 128 + P % 2 ^ 128) % 2 ^ 128 = timesS a b c d (j + 1) % 2 ^ 128 := by
  rw [h, ← Nat.add_mod]
theorem mul_split (a b c d M : Nat) : (a + b * M) * (c + d * M) = a * c + a * d * M + b * c * M + b * d * (M * M) := by
  rw [Nat.add_comm a, Nat.add_comm c, Lib.split_mul b a d c M, Nat.add_mul]
  omega
theorem times_total {a b c d N K : Nat} (h : Lim a b N) (k : Lim c d K) : (timesS a b c d 2 % 2 ^ 128 + b * c * 2 ^ 64 % 2 ^ 128) % 2 ^ 128 = N * K % 2 ^ 128 := by
  obtain ⟨_, _, rfl⟩ := h
  obtain ⟨_, _, rfl⟩ := k
  rw [← Nat.add_mod]
  have e := mul_split a b c d 18446744073709551616
  have x1 : (18446744073709551616 * 18446744073709551616 : Nat) = 340282366920938463463374607431768211456 := by decide
  rw [x1] at e
  have e2 : timesS a b c d 2 = a * c + a * d * 18446744073709551616 := rfl
  rw [e, e2, two64, two128, Nat.add_mul_mod_self_right]
theorem mul_parts (x y : Nat) (hx : x < 18446744073709551616) (hy : y < 18446744073709551616) : ∃ hi lo : Nat, Lim lo hi (x * y) ∧ ∀ wx, Calls Try.prog 93 #[.int .u64 x, .int .u64 y] wx fun e w' => e = .returned (.tuple #[.int .u64 (hi : Int), .int .u64 (lo : Int)]) ∧ w' = wx := by
  refine ⟨_, _, ?_, fun wx => (Mul64_any x y hx hy wx).mono fun e w' ⟨he, hw⟩ => ⟨he, hw.symm⟩⟩
  have : x * y < 2 ^ 128 := by
    have e : (2 : Nat) ^ 128 = 18446744073709551616 * 18446744073709551616 := by decide
    rw [e]; exact Nat.mul_lt_mul'' hx hy
  exact Lim.of _ this
theorem up_at {a b N : Nat} (h : Lim a b N) (p : Int) (q : Nat) (hp : p = (q : Int)) (hq : q ≤ 128) (w : World) : Calls Try.prog 75 #[.agg #[.int .u64 a, .int .u64 b], .int .i64 p] w (RetN w (N * 2 ^ q % 2 ^ 128)) := by
  subst hp; exact up_any h q hq w
set_option maxRecDepth 100000 in
set_option maxHeartbeats 4000000 in
theorem times_any {a b c d N K : Nat} (h : Lim a b N) (k : Lim c d K) (w : World) : Calls Try.prog 71 #[.agg #[.int .u64 a, .int .u64 b], .agg #[.int .u64 c, .int .u64 d]] w (RetN w (N * K % 2 ^ 128)) := by
  obtain ⟨h0, l0, L0, m0⟩ := mul_parts a c h.1 k.1
  obtain ⟨h1, l1, L1, m1⟩ := mul_parts a d h.1 k.2.1
  obtain ⟨h2, l2, L2, m2⟩ := mul_parts b c h.2.1 k.1
  have H0 := Lib.hid m0
  have H1 := Lib.hid m1
  have H2 := Lib.hid m2
  have U0 := Lib.hid (fun wx => up_at L0 0 0 rfl (by omega) wx)
  have U1 := Lib.hid (fun wx => up_at L1 64 64 rfl (by omega) wx)
  have U2 := Lib.hid (fun wx => up_at L2 64 64 rfl (by omega) wx)
  clear m0 m1 m2 L0 L1 L2
  have HR : Hid (Lim a b N ∧ Lim c d K) := ⟨h, k⟩
  clear h k
  obtain ⟨R, hR⟩ : ∃ R, N * K % 2 ^ 128 = R := ⟨_, rfl⟩
  rw [hR]
  have HRR := Lib.hid hR
  clear hR
  go_enter Try.func71, Try.ntmps71
  go_wp2
  refine wp_loop_rounds 3 ?_
  rw [rounds_succ]; go_wp2
  go_loopw [15] (fun t wr => ∃ j x y : Nat, j ≤ 2 ∧ t = .int .i64 j ∧ Hid (Lim x y (timesS a b c d j % 2 ^ 128)) ∧ TimesW w wr a b c d x y) (fun t _ => 2 - (intOf t).toNat)
  case atStart => exact ⟨0, 0, 0, by omega, rfl, Lim.zero, TimesW.first w a b c d⟩
  case round =>
    obtain ⟨j, x, y, hj, rfl, hL, hT⟩ := hrel
    obtain ⟨p1, p2, p3, p4, p5, p6, p7, p8, pz, pB, pr1, pr2, pr3, pr4⟩ := hT.parts
    by_cases hlt : j < 2
    · have hj' : j = 0 ∨ j = 1 := by omega
      rcases hj' with rfl | rfl
      · go_wp2
        go_quiet ((go_at_call 93; exact Calls.quiet_of_same (H0.out _)))
        go_wp2_with fail
        go_region_with (first | (go_at_call 75; refine (U0.out _).mono ?_; rintro e w1 ⟨x1, y1, K1, rfl, hb1⟩; obtain ⟨q1, q2, q3, q4, q5, q6, q7, q8, qz, qB, qr1, qr2, qr3, qr4⟩ := (hT.next hb1).parts) | (go_at_call 59; refine (plus_any hL.out K1 _).mono ?_; rintro e w2 ⟨x2, y2, K2, rfl, hb2⟩; obtain ⟨r1, r2, r3, r4, r5, r6, r7, r8, rz, rB, rr1, rr2, rr3, rr4⟩ := ((hT.next hb1).nx hb2).parts))
        all_goals go_wp2
        all_goals (
          go_roundw
          case rel => 
            refine ⟨1, x2, y2, by omega, by go_num, ?_, ((hT.next hb1).nx hb2).store x2 y2⟩
            rw [timesS_next a b c d 0 0 (a * c * 2 ^ 0) 0 (by simp [timesS])] at K2
            exact K2
          case measure => simp [intOf])
      · go_wp2
        go_quiet ((go_at_call 93; exact Calls.quiet_of_same (H1.out _)))
        go_wp2_with fail
        go_region_with (first | (go_at_call 75; refine (U1.out _).mono ?_; rintro e w1 ⟨x1, y1, K1, rfl, hb1⟩; obtain ⟨q1, q2, q3, q4, q5, q6, q7, q8, qz, qB, qr1, qr2, qr3, qr4⟩ := (hT.next hb1).parts) | (go_at_call 59; refine (plus_any hL.out K1 _).mono ?_; rintro e w2 ⟨x2, y2, K2, rfl, hb2⟩; obtain ⟨r1, r2, r3, r4, r5, r6, r7, r8, rz, rB, rr1, rr2, rr3, rr4⟩ := ((hT.next hb1).nx hb2).parts))
        all_goals go_wp2
        all_goals (
          go_roundw
          case rel => 
            refine ⟨2, x2, y2, by omega, by go_num, ?_, ((hT.next hb1).nx hb2).store x2 y2⟩
            rw [timesS_next a b c d 1 0 (a * d * 2 ^ 64) 0 (by simp [timesS])] at K2
            exact K2
          case measure => simp [intOf])
    · obtain rfl : j = 2 := by omega
      go_wp2
      rw [rounds_succ]; go_wp2
      refine wp_loop_rounds 2 ?_
      rw [rounds_succ]; go_wp2
      go_quiet ((go_at_call 93; exact Calls.quiet_of_same (H2.out _)))
      go_wp2_with fail
      go_region_with (first | (go_at_call 75; refine (U2.out _).mono ?_; rintro e w1 ⟨x1, y1, K1, rfl, hb1⟩; obtain ⟨q1, q2, q3, q4, q5, q6, q7, q8, qz, qB, qr1, qr2, qr3, qr4⟩ := (hT.next hb1).parts) | (go_at_call 59; refine (plus_any hL.out K1 _).mono ?_; rintro e w2 ⟨x2, y2, K2, rfl, hb2⟩; obtain ⟨r1, r2, r3, r4, r5, r6, r7, r8, rz, rB, rr1, rr2, rr3, rr4⟩ := ((hT.next hb1).nx hb2).parts))
      all_goals go_wp2
      all_goals (rw [rounds_succ]; go_wp2)
      all_goals (rw [rounds_succ]; go_wp2)
      all_goals (
        rw [times_total HR.out.1 HR.out.2, HRR.out] at K2
        have hT2 := (hT.next hb1).nx hb2
        refine bodyPost_ret (v := .agg #[.int .u64 (x2 : Int), .int .u64 (y2 : Int)]) (by simp [results, Try.results71, go_sem, *]) rfl ⟨x2, y2, K2, rfl, ?_⟩
        exact (((hT2.bel.setCell (by simp; omega) _).setCell (by simp; omega) _).setCell (by simp; omega) _).setCell (by simp; omega) _)
end Go.Proofs.Ytnnoflohekmnbaa
