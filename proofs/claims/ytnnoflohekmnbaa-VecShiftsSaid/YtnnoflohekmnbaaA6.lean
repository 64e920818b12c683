/-
  vec.divide, quotient and remainder over the translated program: what each call returns. Nothing is assumed.
-/
import Derived.Test.YtnnoflohekmnbaaProg
import Derived.WalkKit
import Derived.WalkSpells
import Derived.WalkLawsBesides
import Derived.LoopN
import Derived.IntWalk
import Derived.Lib.Hide
import Derived.Test.YtnnoflohekmnbaaA5
import Derived.Laws.BitsAllLaws
import Derived.Laws.Externs
import Derived.BigQuiet
import Derived.BigRegion
import Derived.Deep.QuietTactic
import Derived.Deep.RegionWith
import Derived.Deep.RegionHeld3
import Derived.StillTailTactics
import Derived.RegionTactic
import Derived.ChangeAlike
set_option linter.unusedVariables false
namespace Go.Proofs.Ytnnoflohekmnbaa
open Go.RowKit
/-- What vec.divide has after k rounds: the quotient, and what is left. -/
def dv (N K : Nat) : Nat → Nat × Nat
  | 0 => (0, 0)
  | k + 1 =>
    if (if N.testBit (127 - k) then ((dv N K k).2 * 2 ^ 1 % 2 ^ 128) ||| 2 ^ 0 else (dv N K k).2 * 2 ^ 1 % 2 ^ 128) < K
    then ((dv N K k).1, if N.testBit (127 - k) then ((dv N K k).2 * 2 ^ 1 % 2 ^ 128) ||| 2 ^ 0 else (dv N K k).2 * 2 ^ 1 % 2 ^ 128)
    else ((dv N K k).1 ||| 2 ^ (127 - k), ((if N.testBit (127 - k) then ((dv N K k).2 * 2 ^ 1 % 2 ^ 128) ||| 2 ^ 0 else (dv N K k).2 * 2 ^ 1 % 2 ^ 128) + 2 ^ 128 - K) % 2 ^ 128)
theorem dv_lt (N K k r2 : Nat) (hr : r2 = if N.testBit (127 - k) then ((dv N K k).2 * 2 ^ 1 % 2 ^ 128) ||| 2 ^ 0 else (dv N K k).2 * 2 ^ 1 % 2 ^ 128) (h : r2 < K) : dv N K (k + 1) = ((dv N K k).1, r2) := by
  rw [dv, ← hr, if_pos h]
theorem dv_ge (N K k r2 : Nat) (hr : r2 = if N.testBit (127 - k) then ((dv N K k).2 * 2 ^ 1 % 2 ^ 128) ||| 2 ^ 0 else (dv N K k).2 * 2 ^ 1 % 2 ^ 128) (h : ¬ r2 < K) : dv N K (k + 1) = ((dv N K k).1 ||| 2 ^ (127 - k), (r2 + 2 ^ 128 - K) % 2 ^ 128) := by
  rw [dv, ← hr, if_neg h]
/-- The world of vec.divide. -/
structure DivW (w wr : World) (a b c d x y u v : Nat) : Prop where
  bel : Below w.heap.size w wr
  sz : w.heap.size + 4 ≤ wr.heap.size
  fa : Two wr w.heap.size a b
  fb : Two wr (w.heap.size + 1) c d
  fq : Two wr (w.heap.size + 1 + 1) x y
  fr : Two wr (w.heap.size + 1 + 1 + 1) u v
theorem DivW.nx {w wr w1 : World} {a b c d x y u v : Nat} (h : DivW w wr a b c d x y u v) (hb : Below wr.heap.size wr w1) : DivW w w1 a b c d x y u v := by
  have hs := h.sz
  exact ⟨h.bel.trans (hb.mono (by omega)), by have := hb.size; omega, h.fa.below hb (by omega), h.fb.below hb (by omega), h.fq.below hb (by omega), h.fr.below hb (by omega)⟩
theorem DivW.setR {w wr : World} {a b c d x y u v : Nat} (h : DivW w wr a b c d x y u v) (s t : Nat) : DivW w ((wr.setCell ⟨w.heap.size + 1 + 1 + 1, 0, none⟩ (.int .u64 s)).setCell ⟨w.heap.size + 1 + 1 + 1, 1, none⟩ (.int .u64 t)) a b c d x y s t :=
  ⟨(h.bel.setCell (by simp; omega) _).setCell (by simp; omega) _, by simpa using h.sz, h.fa.other (by omega) _ _, h.fb.other (by omega) _ _, h.fq.other (by omega) _ _, h.fr.store s t⟩
theorem DivW.setQ {w wr : World} {a b c d x y u v : Nat} (h : DivW w wr a b c d x y u v) (s t : Nat) : DivW w ((wr.setCell ⟨w.heap.size + 1 + 1, 0, none⟩ (.int .u64 s)).setCell ⟨w.heap.size + 1 + 1, 1, none⟩ (.int .u64 t)) a b c d s t u v :=
  ⟨(h.bel.setCell (by simp; omega) _).setCell (by simp; omega) _, by simpa using h.sz, h.fa.other (by omega) _ _, h.fb.other (by omega) _ _, h.fq.store s t, h.fr.other (by omega) _ _⟩
theorem DivW.first (w : World) (a b c d : Nat) : DivW w ((((w.alloc (.cells #[.int .u64 a, .int .u64 b] 62)).alloc (.cells #[.int .u64 c, .int .u64 d] 62)).alloc (.cells #[.int .u64 0, .int .u64 0] 62)).alloc (.cells #[.int .u64 0, .int .u64 0] 62)) a b c d 0 0 0 0 := by
  refine ⟨bal (bal (bal (bal (Below.refl _ _) _) _) _) _, by simp, ⟨?_, ?_, ?_, ?_⟩, ⟨?_, ?_, ?_, ?_⟩, ⟨?_, ?_, ?_, ?_⟩, ⟨?_, ?_, ?_, ?_⟩⟩ <;> go_simp
theorem DivW.parts {w wr : World} {a b c d x y u v : Nat} (h : DivW w wr a b c d x y u v) :
    (wr.cell? ⟨w.heap.size, 0, none⟩ = some (.int .u64 a) ∧ wr.cell? ⟨w.heap.size, 1, none⟩ = some (.int .u64 b) ∧ wr.cell? ⟨w.heap.size + 1, 0, none⟩ = some (.int .u64 c) ∧ wr.cell? ⟨w.heap.size + 1, 1, none⟩ = some (.int .u64 d)) ∧
    (wr.cell? ⟨w.heap.size + 1 + 1, 0, none⟩ = some (.int .u64 x) ∧ wr.cell? ⟨w.heap.size + 1 + 1, 1, none⟩ = some (.int .u64 y) ∧ wr.frozen? ⟨w.heap.size + 1 + 1, 0, none⟩ = false ∧ wr.frozen? ⟨w.heap.size + 1 + 1, 1, none⟩ = false) ∧
    (wr.cell? ⟨w.heap.size + 1 + 1 + 1, 0, none⟩ = some (.int .u64 u) ∧ wr.cell? ⟨w.heap.size + 1 + 1 + 1, 1, none⟩ = some (.int .u64 v) ∧ wr.frozen? ⟨w.heap.size + 1 + 1 + 1, 0, none⟩ = false ∧ wr.frozen? ⟨w.heap.size + 1 + 1 + 1, 1, none⟩ = false) :=
  ⟨⟨h.fa.1, h.fa.2.1, h.fb.1, h.fb.2.1⟩, h.fq, h.fr⟩
theorem with_at {a b N : Nat} (h : Lim a b N) (p : Int) (i : Nat) (hp : p = (i : Int)) (hi : i < 128) (w : World) : Calls Try.prog 33 #[.agg #[.int .u64 a, .int .u64 b], .int .i64 p] w (RetN w (N ||| 2 ^ i)) := by
  subst hp; exact with_any h i hi w
theorem bit_at {a b N : Nat} (h : Lim a b N) (p : Int) (i : Nat) (hp : p = (i : Int)) (hi : i < 128) (w : World) : Calls Try.prog 97 #[.agg #[.int .u64 a, .int .u64 b], .int .i64 p] w (RetV w (.bool (N.testBit i))) := by
  subst hp; exact bit_any h i hi w
def RetNN (w0 : World) (N K : Nat) (e : Ending) (w' : World) : Prop := ∃ c d x y : Nat, Lim c d N ∧ Lim x y K ∧ e = .returned (.tuple #[.agg #[.int .u64 c, .int .u64 d], .agg #[.int .u64 x, .int .u64 y]]) ∧ Below w0.heap.size w0 w'
/-- Where the loop of vec.divide stands. -/
def DivR (w : World) (a b c d N K : Nat) (k : Nat) (wr : World) : Prop := ∃ x y u v : Nat, Lim x y (dv N K k).1 ∧ Lim u v (dv N K k).2 ∧ DivW w wr a b c d x y u v
set_option maxRecDepth 100000 in
set_option maxHeartbeats 4000000 in
theorem divide_any {a b c d N K : Nat} (h : Lim a b N) (k : Lim c d K) (w : World) : Calls Try.prog 94 #[.agg #[.int .u64 a, .int .u64 b], .agg #[.int .u64 c, .int .u64 d]] w (RetNN w (dv N K 128).1 (dv N K 128).2) := by
  have HL : Hid (Lim a b N ∧ Lim c d K) := ⟨h, k⟩
  clear h k
  obtain ⟨R1, hR1⟩ : ∃ R, (dv N K 128).1 = R := ⟨_, rfl⟩
  obtain ⟨R2, hR2⟩ : ∃ R, (dv N K 128).2 = R := ⟨_, rfl⟩
  rw [hR1, hR2]
  have HR1 := Lib.hid hR1
  have HR2 := Lib.hid hR2
  clear hR1 hR2
  go_enter Try.func94, Try.ntmps94
  go_wp2
  go_loopw [8] (fun t wr => ∃ j : Nat, j ≤ 128 ∧ t = .int .i64 j ∧ DivR w a b c d N K j wr) (fun t _ => 128 - (intOf t).toNat)
  case atStart => exact ⟨0, by omega, rfl, 0, 0, 0, 0, Lim.zero, Lim.zero, DivW.first w a b c d⟩
  case round =>
    obtain ⟨j, hj, rfl, x, y, u, v, Lq, Lr, hT⟩ := hrel
    by_cases hlt : j < 128
    · have HK := Lib.hid hlt
      obtain ⟨⟨p1, p2, p3, p4⟩, ⟨p5, p6, p7, p8⟩, ⟨p9, p10, p11, p12⟩⟩ := hT.parts
      go_wp2_with fail
      refine (up_at Lr 1 1 rfl (by omega) _).mono ?_
      rintro e w1 ⟨u1, v1, L1, rfl, hb1⟩
      have hT1 := hT.nx hb1
      obtain ⟨⟨q1, q2, q3, q4⟩, ⟨q5, q6, q7, q8⟩, ⟨q9, q10, q11, q12⟩⟩ := hT1.parts
      clear hb1 p1 p2 p3 p4 p5 p6 p7 p8 p9 p10 p11 p12 hT
      go_wp2_with fail
      have hT2 := hT1.setR u1 v1
      generalize ((w1.setCell ⟨w.heap.size + 1 + 1 + 1, 0, none⟩ (.int .u64 u1)).setCell ⟨w.heap.size + 1 + 1 + 1, 1, none⟩ (.int .u64 v1)) = w2 at hT2 ⊢
      clear hT1 q1 q2 q3 q4 q5 q6 q7 q8 q9 q10 q11 q12
      refine (bit_at HL.out.1 _ (127 - j) (by omega) (by omega) _).mono ?_
      rintro e w3 ⟨rfl, hb3⟩
      have hT3 := hT2.nx hb3
      obtain ⟨⟨q1, q2, q3, q4⟩, ⟨q5, q6, q7, q8⟩, ⟨q9, q10, q11, q12⟩⟩ := hT3.parts
      clear hb3 hT2
      obtain ⟨r2, hr2⟩ : ∃ r2, r2 = if N.testBit (127 - j) then ((dv N K j).2 * 2 ^ 1 % 2 ^ 128) ||| 2 ^ 0 else (dv N K j).2 * 2 ^ 1 % 2 ^ 128 := ⟨_, rfl⟩
      have hr := Lib.hid hr2
      cases hbit : N.testBit (127 - j) with
      | true =>
        rw [hbit, if_pos rfl] at hr2
        have hr3 := Lib.hid hr2
        clear hr2
        go_wp2_with fail
        refine (with_at L1 0 0 rfl (by omega) _).mono ?_
        rintro e w4 ⟨u4, v4, L4, rfl, hb4⟩
        rw [← hr3.out] at L4
        have hT4 := hT3.nx hb4
        obtain ⟨⟨r1, r2, r3, r4⟩, ⟨r5, r6, r7, r8⟩, ⟨r9, r10, r11, r12⟩⟩ := hT4.parts
        clear hb4 hT3 q1 q2 q3 q4 q5 q6 q7 q8 q9 q10 q11 q12 hbit hr3
        go_wp2_with fail
        have hT5 := hT4.setR u4 v4
        generalize ((w4.setCell ⟨w.heap.size + 1 + 1 + 1, 0, none⟩ (.int .u64 u4)).setCell ⟨w.heap.size + 1 + 1 + 1, 1, none⟩ (.int .u64 v4)) = w5 at hT5 ⊢
        clear hT4 r1 r2 r3 r4 r5 r6 r7 r8 r9 r10 r11 r12
        refine (less_any L4 HL.out.2 _).mono ?_
        rintro e w6 ⟨rfl, hb6⟩
        have hT6 := hT5.nx hb6
        obtain ⟨⟨s1, s2, s3, s4⟩, ⟨s5, s6, s7, s8⟩, ⟨s9, s10, s11, s12⟩⟩ := hT6.parts
        clear hb6 hT5
        by_cases hless : r2 < K
        · have hd : decide (r2 < K) = true := decide_eq_true hless
          have HE := Lib.hid (dv_lt N K j r2 hr.out hless)
          rw [hd]
          clear hd
          go_wp2
          go_roundw
          case rel => exact ⟨j + 1, by omega, by go_num, x, y, u4, v4, by rw [HE.out]; exact Lq, by rw [HE.out]; exact L4, hT6⟩
          case measure => simp [intOf]; omega
        · have hd : decide (r2 < K) = false := decide_eq_false hless
          have HE := Lib.hid (dv_ge N K j r2 hr.out hless)
          rw [hd]
          clear hd
          go_wp2_with fail
          refine (minus_any L4 HL.out.2 _).mono ?_
          rintro e w7 ⟨u7, v7, L7, rfl, hb7⟩
          have hT7 := hT6.nx hb7
          obtain ⟨⟨t1, t2, t3, t4⟩, ⟨t5, t6, t7, t8⟩, ⟨t9, t10, t11, t12⟩⟩ := hT7.parts
          clear hb7 hT6 s1 s2 s3 s4 s5 s6 s7 s8 s9 s10 s11 s12
          go_wp2_with fail
          have hT8 := hT7.setR u7 v7
          generalize ((w7.setCell ⟨w.heap.size + 1 + 1 + 1, 0, none⟩ (.int .u64 u7)).setCell ⟨w.heap.size + 1 + 1 + 1, 1, none⟩ (.int .u64 v7)) = w8 at hT8 ⊢
          clear hT7 t1 t2 t3 t4 t5 t6 t7 t8 t9 t10 t11 t12
          refine (with_at Lq _ (127 - j) (by omega) (by omega) _).mono ?_
          rintro e w9 ⟨x9, y9, L9, rfl, hb9⟩
          have hT9 := hT8.nx hb9
          obtain ⟨⟨t1, t2, t3, t4⟩, ⟨t5, t6, t7, t8⟩, ⟨t9, t10, t11, t12⟩⟩ := hT9.parts
          clear hb9 hT8
          go_wp2
          go_roundw
          case rel => exact ⟨j + 1, by omega, by go_num, x9, y9, u7, v7, by rw [HE.out]; exact L9, by rw [HE.out]; exact L7, hT9.setQ x9 y9⟩
          case measure => simp [intOf]; omega
      | false =>
        rw [hbit, if_neg (by simp)] at hr2
        rw [← hr2] at L1
        clear hr2
        go_wp2_with fail
        clear hbit q1 q2 q3 q4 q5 q6 q7 q8 q9 q10 q11 q12
        refine (less_any L1 HL.out.2 _).mono ?_
        rintro e w6 ⟨rfl, hb6⟩
        have hT6 := hT3.nx hb6
        obtain ⟨⟨s1, s2, s3, s4⟩, ⟨s5, s6, s7, s8⟩, ⟨s9, s10, s11, s12⟩⟩ := hT6.parts
        clear hb6 hT3
        by_cases hless : r2 < K
        · have hd : decide (r2 < K) = true := decide_eq_true hless
          have HE := Lib.hid (dv_lt N K j r2 hr.out hless)
          rw [hd]
          clear hd
          go_wp2
          go_roundw
          case rel => exact ⟨j + 1, by omega, by go_num, x, y, u1, v1, by rw [HE.out]; exact Lq, by rw [HE.out]; exact L1, hT6⟩
          case measure => simp [intOf]; omega
        · have hd : decide (r2 < K) = false := decide_eq_false hless
          have HE := Lib.hid (dv_ge N K j r2 hr.out hless)
          rw [hd]
          clear hd
          go_wp2_with fail
          refine (minus_any L1 HL.out.2 _).mono ?_
          rintro e w7 ⟨u7, v7, L7, rfl, hb7⟩
          have hT7 := hT6.nx hb7
          obtain ⟨⟨t1, t2, t3, t4⟩, ⟨t5, t6, t7, t8⟩, ⟨t9, t10, t11, t12⟩⟩ := hT7.parts
          clear hb7 hT6 s1 s2 s3 s4 s5 s6 s7 s8 s9 s10 s11 s12
          go_wp2_with fail
          have hT8 := hT7.setR u7 v7
          generalize ((w7.setCell ⟨w.heap.size + 1 + 1 + 1, 0, none⟩ (.int .u64 u7)).setCell ⟨w.heap.size + 1 + 1 + 1, 1, none⟩ (.int .u64 v7)) = w8 at hT8 ⊢
          clear hT7 t1 t2 t3 t4 t5 t6 t7 t8 t9 t10 t11 t12
          refine (with_at Lq _ (127 - j) (by omega) (by omega) _).mono ?_
          rintro e w9 ⟨x9, y9, L9, rfl, hb9⟩
          have hT9 := hT8.nx hb9
          obtain ⟨⟨t1, t2, t3, t4⟩, ⟨t5, t6, t7, t8⟩, ⟨t9, t10, t11, t12⟩⟩ := hT9.parts
          clear hb9 hT8
          go_wp2
          go_roundw
          case rel => exact ⟨j + 1, by omega, by go_num, x9, y9, u7, v7, by rw [HE.out]; exact L9, by rw [HE.out]; exact L7, hT9.setQ x9 y9⟩
          case measure => simp [intOf]; omega
    · obtain rfl : j = 128 := by omega
      obtain ⟨⟨s1, s2, s3, s4⟩, ⟨s5, s6, s7, s8⟩, ⟨s9, s10, s11, s12⟩⟩ := hT.parts
      go_wp2
      go_region
      go_wp2
      have hT2 := (hT.setQ x y).setR u v
      refine bodyPost_ret (v := .tuple #[.agg #[.int .u64 (x : Int), .int .u64 (y : Int)], .agg #[.int .u64 (u : Int), .int .u64 (v : Int)]]) (by simp [results, Try.results94, go_sem, *]) rfl ⟨x, y, u, v, HR1.out ▸ Lq, HR2.out ▸ Lr, rfl, hT2.bel.drew⟩
theorem two3 (w : World) (a b c d : Nat) : Two (((w.alloc (.cells #[.int .u64 a, .int .u64 b] 62)).alloc (.cells #[.int .u64 c, .int .u64 d] 62)).alloc (.cells #[.int .u64 0, .int .u64 0] 62)) (w.heap.size + 1 + 1) 0 0 := by
  refine ⟨?_, ?_, ?_, ?_⟩ <;> go_simp
theorem two_of {w : World} {g a b : Nat} (h : Two w g a b) : w.cell? ⟨g, 0, none⟩ = some (.int .u64 a) ∧ w.cell? ⟨g, 1, none⟩ = some (.int .u64 b) ∧ w.frozen? ⟨g, 0, none⟩ = false ∧ w.frozen? ⟨g, 1, none⟩ = false := h
set_option maxHeartbeats 400000 in
theorem quotient_any {a b c d N K : Nat} (h : Lim a b N) (k : Lim c d K) (w : World) : Calls Try.prog 72 #[.agg #[.int .u64 a, .int .u64 b], .agg #[.int .u64 c, .int .u64 d]] w (RetN w (dv N K 128).1) := by
  have HD := Lib.hid (fun wx => divide_any h k wx)
  generalize (dv N K 128).1 = R1 at *
  generalize (dv N K 128).2 = R2 at *
  clear h k
  go_enter Try.func72, Try.ntmps72
  go_wp2_with fail
  refine (HD.out _).mono ?_
  rintro e w1 ⟨x, y, u, v, L1, L2, rfl, hb⟩
  have hB : Below w.heap.size w w1 := (bal (bal (bal (Below.refl _ _) _) _) _).trans (hb.mono (by simp; omega))
  have hz : w.heap.size + 1 + 1 < w1.heap.size := by have := hb.size; simp at this; omega
  have hz1 : w.heap.size + 1 < w1.heap.size := by omega
  have hz2 : w.heap.size < w1.heap.size := by omega
  have T : Two w1 (w.heap.size + 1 + 1) 0 0 := (two3 w a b c d).below hb (by simp)
  obtain ⟨t1, t2, t3, t4⟩ := two_of T
  clear hb HD T
  go_wp2
  refine bodyPost_ret (v := .agg #[.int .u64 (x : Int), .int .u64 (y : Int)]) (by simp [results, Try.results72, go_sem, *]) rfl ⟨x, y, L1, rfl, ?_⟩
  repeat (first | exact hB | refine Below.drew ?_ | refine bal ?_ _ | refine Below.setCell ?_ (by simp; omega) _)
set_option maxHeartbeats 400000 in
theorem remainder_any {a b c d N K : Nat} (h : Lim a b N) (k : Lim c d K) (w : World) : Calls Try.prog 73 #[.agg #[.int .u64 a, .int .u64 b], .agg #[.int .u64 c, .int .u64 d]] w (RetN w (dv N K 128).2) := by
  have HD := Lib.hid (fun wx => divide_any h k wx)
  generalize (dv N K 128).1 = R1 at *
  generalize (dv N K 128).2 = R2 at *
  clear h k
  go_enter Try.func73, Try.ntmps73
  go_wp2_with fail
  refine (HD.out _).mono ?_
  rintro e w1 ⟨x, y, u, v, L1, L2, rfl, hb⟩
  have hB : Below w.heap.size w w1 := (bal (bal (bal (Below.refl _ _) _) _) _).trans (hb.mono (by simp; omega))
  have hz : w.heap.size + 1 + 1 < w1.heap.size := by have := hb.size; simp at this; omega
  have hz1 : w.heap.size + 1 < w1.heap.size := by omega
  have hz2 : w.heap.size < w1.heap.size := by omega
  have T : Two w1 (w.heap.size + 1 + 1) 0 0 := (two3 w a b c d).below hb (by simp)
  obtain ⟨t1, t2, t3, t4⟩ := two_of T
  clear hb HD T
  go_wp2
  refine bodyPost_ret (v := .agg #[.int .u64 (u : Int), .int .u64 (v : Int)]) (by simp [results, Try.results73, go_sem, *]) rfl ⟨u, v, L2, rfl, ?_⟩
  repeat (first | exact hB | refine Below.drew ?_ | refine bal ?_ _ | refine Below.setCell ?_ (by simp; omega) _)
end Go.Proofs.Ytnnoflohekmnbaa
