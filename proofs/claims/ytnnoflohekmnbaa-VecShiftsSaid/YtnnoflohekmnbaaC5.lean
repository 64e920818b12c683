/-
  vec.Ext over the translated program. Nothing is assumed.
-/
import Derived.Test.YtnnoflohekmnbaaProg
import Derived.WalkKit
import Derived.WalkSpells
import Derived.WalkLawsBesides
import Derived.LoopN
import Derived.IntWalk
import Derived.Lib.Hide
import Derived.Test.YtnnoflohekmnbaaC4
import Derived.Laws.BitsAllLaws
import Derived.Laws.Externs
import Derived.BigQuiet
import Derived.BigRegion
import Derived.Deep.QuietTactic
import Derived.Deep.RegionWith
import Derived.Deep.RegionHeld3
import Derived.StillTailTactics
import Derived.RegionTactic
import Derived.ChangeAlike
set_option linter.unusedVariables false
namespace Go.Proofs.Ytnnoflohekmnbaa
open Go.RowKit
theorem lt_of_two {w : World} {g a b : Nat} (h : Two w g a b) : g < w.heap.size := World.block_lt_of_cell? w _ h.1
theorem Fr2.two {w wr : World} {x0 x1 r0 r1 : Value} {g : Nat} (h : Fr2 w wr x0 x1 r0 r1) (hg : w.heap.size + 1 < g) (x y : Nat) : Fr2 w ((wr.setCell ⟨g, 0, none⟩ (.int .u64 x)).setCell ⟨g, 1, none⟩ (.int .u64 y)) x0 x1 r0 r1 := by
  have ot : ∀ {q : Nat} {u v : Value}, Duo wr q u v → q ≠ g → Duo ((wr.setCell ⟨g, 0, none⟩ (.int .u64 x)).setCell ⟨g, 1, none⟩ (.int .u64 y)) q u v := by
    intro q u v hd hq
    exact ⟨(cell_other (p := ⟨q, 0, none⟩) hq _ _).trans hd.1, (cell_other (p := ⟨q, 1, none⟩) hq _ _).trans hd.2.1, by simp [hd.2.2.1], by simp [hd.2.2.2]⟩
  exact ⟨(h.bel.setCell (by simp; omega) _).setCell (by simp; omega) _, by simpa using h.sz, ot h.fa (by omega), ot h.fr (by omega)⟩
set_option maxHeartbeats 400000 in
theorem Ext_erra (V : Value) (W n : Int) (b : Bool) (w : World) (h0 : n < 0) : Calls Try.prog 28 #[.agg #[.int .i64 W, V], .int .i64 n, .bool b] w (RetErr w 5) := by
  have d1 : decide (n < 0) = true := decide_eq_true h0
  go_enter Try.func28, Try.ntmps28
  go_wp2
  refine bodyPost_ret (v := .tuple #[.agg #[.int .i64 0, .slice none 0 0], .int .i64 5]) (by simp [results, Try.results28, go_sem]) rfl ⟨rfl, ?_⟩
  repeat (first | exact Below.refl _ _ | refine below_drewN ?_ _ | refine bal ?_ _)
set_option maxHeartbeats 400000 in
theorem Ext_errb (V : Value) (W n : Int) (b : Bool) (w : World) (hW : 0 ≤ W) (hW2 : W ≤ 128) (h0 : 0 ≤ n) (h1 : 128 - W < n) : Calls Try.prog 28 #[.agg #[.int .i64 W, V], .int .i64 n, .bool b] w (RetErr w 5) := by
  have d1 : decide (n < 0) = false := decide_eq_false (by omega)
  have HS : Hid (∀ wx, Calls Try.prog 48 #[.int .i64 W, .int .i64 n] wx fun e w' => e = .returned (.bool false) ∧ wx = w') := fun wx => (sumFits_any W n wx hW hW2).mono fun e w' ⟨he, hw⟩ => ⟨by rw [he]; congr 2; exact decide_eq_false (by omega), hw⟩
  go_enter Try.func28, Try.ntmps28
  go_wp2_with fail
  refine (HS.out _).mono ?_
  rintro e w2 ⟨rfl, rfl⟩
  go_wp2
  refine bodyPost_ret (v := .tuple #[.agg #[.int .i64 0, .slice none 0 0], .int .i64 5]) (by simp [results, Try.results28, go_sem]) rfl ⟨rfl, ?_⟩
  repeat (first | exact Below.refl _ _ | refine below_drewN ?_ _ | refine bal ?_ _)
set_option maxRecDepth 100000 in
set_option maxHeartbeats 2000000 in
theorem Ext_plain {w : World} {ad : Addr} {c W N : Nat} (h : Vc w w.heap.size ad c W N) (n : Nat) (hn : W + n ≤ 128) (Y : Nat) (hY : Hid (∀ x y, Lim x y N → Lim x y Y)) :
    Calls Try.prog 28 #[.agg #[.int .i64 W, .slice (some ad) (lm W) c], .int .i64 n, .bool false] w (RetVE w (W + n) (Y % 2 ^ (W + n))) := by
  have h1 := h.w1
  have h2 := h.w2
  obtain ⟨R, hR⟩ : ∃ R, Y % 2 ^ (W + n) = R := ⟨_, rfl⟩
  rw [hR]
  have HR := Lib.hid hR
  have d1 : decide ((n : Int) < 0) = false := decide_eq_false (by omega)
  have HS : Hid (∀ wx, Calls Try.prog 48 #[.int .i64 W, .int .i64 n] wx fun e w' => e = .returned (.bool true) ∧ wx = w') := fun wx => (sumFits_any W n wx (by omega) (by omega)).mono fun e w' ⟨he, hw⟩ => ⟨by rw [he]; congr 2; exact decide_eq_true (by omega), hw⟩
  have hF0 := Lib.hid (Fr2.first w (.int .i64 W) (.slice (some ad) (lm W) c) (.int .i64 0) (.slice none 0 0) 24 24)
  have hV0 := Lib.hid (h.nx (Fr2.first w (.int .i64 W) (.slice (some ad) (lm W) c) (.int .i64 0) (.slice none 0 0) 24 24).bel)
  generalize hk : lm W = k at *
  have HK := Lib.hid hk
  clear h hk hR
  go_enter Try.func28, Try.ntmps28
  go_wp2_with fail
  refine (HS.out _).mono ?_
  rintro e w9 ⟨rfl, rfl⟩
  go_wp2_with fail
  refine (Right_k HK.out hV0.out).mono ?_
  rintro e w1 ⟨rfl, hb1⟩
  have hF1 := hF0.out.nx hb1
  have hV1 := hV0.out.nx hb1
  obtain ⟨⟨p1, p2⟩, ⟨p3, p4, p5, p6⟩, pz⟩ := hF1.parts
  clear hb1
  go_wp2_with fail
  refine (numberOf_k HK.out hV1).mono ?_
  rintro e w2 ⟨x2, y2, L2, rfl, hb2⟩
  have hF2 := hF1.nx hb2
  have hV2 := hV1.nx hb2
  clear hb2 p1 p2 p3 p4 p5 p6 pz
  obtain ⟨⟨p1, p2⟩, ⟨p3, p4, p5, p6⟩, pz⟩ := hF2.parts
  have pz1 : w.heap.size < w2.heap.size := by omega
  have hF3 := hF2.nx (bal (Below.refl _ _) (.cells #[.int .u64 x2, .int .u64 y2] 62))
  have hV3 := hV2.nx (bal (Below.refl _ _) (.cells #[.int .u64 x2, .int .u64 y2] 62))
  have T3 : Two (w2.alloc (.cells #[.int .u64 x2, .int .u64 y2] 62)) w2.heap.size x2 y2 := by refine ⟨?_, ?_, ?_, ?_⟩ <;> go_simp
  go_wp2_with fail
  refine (vecOf_at (hY.out _ _ L2) ((W : Int) + (n : Int)) (W + n) (by omega) (by omega) (by omega) _).mono ?_
  rintro e w8 ⟨ad8, c8, rfl, hv8, hf8, hb8⟩
  have hF8 := hF3.nx hb8
  obtain ⟨⟨s1, s2⟩, ⟨s3, s4, s5, s6⟩, sz⟩ := hF8.parts
  rw [HR.out] at hv8
  go_wp2
  refine bodyPost_ret (v := .tuple #[.agg #[.int .i64 ((W : Int) + (n : Int)), .slice (some ad8) (lm (W + n)) c8], .int .i64 0]) (by simp [results, Try.results28, go_sem, *]) rfl ?_
  have e2 : (W : Int) + (n : Int) = ((W + n : Nat) : Int) := by omega
  rw [e2]
  exact RetVE.mk (W := W + n) hv8 hF8.bel (by omega) (by have := hF3.sz; omega)
set_option maxRecDepth 100000 in
set_option maxHeartbeats 2000000 in
theorem Ext_low {w : World} {ad : Addr} {c W N : Nat} (h : Vc w w.heap.size ad c W N) (n : Nat) (hn : W + n ≤ 128) (hb : N.testBit (W - 1) = false) (Y : Nat) (hY : Hid (∀ x y, Lim x y N → Lim x y Y)) :
    Calls Try.prog 28 #[.agg #[.int .i64 W, .slice (some ad) (lm W) c], .int .i64 n, .bool true] w (RetVE w (W + n) (Y % 2 ^ (W + n))) := by
  have h1 := h.w1
  have h2 := h.w2
  obtain ⟨R, hR⟩ : ∃ R, Y % 2 ^ (W + n) = R := ⟨_, rfl⟩
  rw [hR]
  have HR := Lib.hid hR
  have HB := Lib.hid hb
  clear hb
  have d1 : decide ((n : Int) < 0) = false := decide_eq_false (by omega)
  have HS : Hid (∀ wx, Calls Try.prog 48 #[.int .i64 W, .int .i64 n] wx fun e w' => e = .returned (.bool true) ∧ wx = w') := fun wx => (sumFits_any W n wx (by omega) (by omega)).mono fun e w' ⟨he, hw⟩ => ⟨by rw [he]; congr 2; exact decide_eq_true (by omega), hw⟩
  have hF0 := Lib.hid (Fr2.first w (.int .i64 W) (.slice (some ad) (lm W) c) (.int .i64 0) (.slice none 0 0) 24 24)
  have hV0 := Lib.hid (h.nx (Fr2.first w (.int .i64 W) (.slice (some ad) (lm W) c) (.int .i64 0) (.slice none 0 0) 24 24).bel)
  generalize hk : lm W = k at *
  have HK := Lib.hid hk
  clear h hk hR
  go_enter Try.func28, Try.ntmps28
  go_wp2_with fail
  refine (HS.out _).mono ?_
  rintro e w9 ⟨rfl, rfl⟩
  go_wp2_with fail
  refine (Right_k HK.out hV0.out).mono ?_
  rintro e w1 ⟨rfl, hb1⟩
  have hF1 := hF0.out.nx hb1
  have hV1 := hV0.out.nx hb1
  obtain ⟨⟨p1, p2⟩, ⟨p3, p4, p5, p6⟩, pz⟩ := hF1.parts
  clear hb1
  go_wp2_with fail
  refine (numberOf_k HK.out hV1).mono ?_
  rintro e w2 ⟨x2, y2, L2, rfl, hb2⟩
  have hF2 := hF1.nx hb2
  have hV2 := hV1.nx hb2
  clear hb2 p1 p2 p3 p4 p5 p6 pz
  obtain ⟨⟨p1, p2⟩, ⟨p3, p4, p5, p6⟩, pz⟩ := hF2.parts
  have pz1 : w.heap.size < w2.heap.size := by omega
  have hF3 := hF2.nx (bal (Below.refl _ _) (.cells #[.int .u64 x2, .int .u64 y2] 62))
  have hV3 := hV2.nx (bal (Below.refl _ _) (.cells #[.int .u64 x2, .int .u64 y2] 62))
  have T3 : Two (w2.alloc (.cells #[.int .u64 x2, .int .u64 y2] 62)) w2.heap.size x2 y2 := by refine ⟨?_, ?_, ?_, ?_⟩ <;> go_simp
  go_wp2_with fail
  refine (isHighest_k HK.out hV3 HB.out).mono ?_
  rintro e w4 ⟨rfl, hb4⟩
  have hF4 := hF3.nx hb4
  have T4 := T3.below hb4 (by simp)
  have hg1 : w.heap.size + 1 < w2.heap.size := pz
  have hg2 : w2.heap.size < w4.heap.size := by have := hb4.size; simp at this; omega
  generalize w2.heap.size = g at *
  clear hb4 p1 p2 p3 p4 p5 p6 pz pz1 hF3 hV3 T3 hF2 hF1
  obtain ⟨⟨p1, p2⟩, ⟨p3, p4, p5, p6⟩, pz⟩ := hF4.parts
  obtain ⟨t1, t2, t3, t4⟩ := two_of T4
  go_wp2_with fail
  refine (vecOf_at (hY.out _ _ L2) ((W : Int) + (n : Int)) (W + n) (by omega) (by omega) (by omega) _).mono ?_
  rintro e w8 ⟨ad8, c8, rfl, hv8, hf8, hb8⟩
  have hF8 := hF4.nx hb8
  obtain ⟨⟨s1, s2⟩, ⟨s3, s4, s5, s6⟩, sz⟩ := hF8.parts
  rw [HR.out] at hv8
  go_wp2
  refine bodyPost_ret (v := .tuple #[.agg #[.int .i64 ((W : Int) + (n : Int)), .slice (some ad8) (lm (W + n)) c8], .int .i64 0]) (by simp [results, Try.results28, go_sem, *]) rfl ?_
  have e2 : (W : Int) + (n : Int) = ((W + n : Nat) : Int) := by omega
  rw [e2]
  exact RetVE.mk (W := W + n) hv8 hF8.bel (by omega) (by have := hF4.sz; omega)
set_option maxRecDepth 100000 in
set_option maxHeartbeats 2000000 in
theorem Ext_high {w : World} {ad : Addr} {c W N : Nat} (h : Vc w w.heap.size ad c W N) (n : Nat) (hn : W + n ≤ 128) (hb : N.testBit (W - 1) = true) (Y : Nat) (hY : Hid (∀ x y, Lim x y (N ||| (2 ^ 128 - 1 - (2 ^ W - 1))) → Lim x y Y)) :
    Calls Try.prog 28 #[.agg #[.int .i64 W, .slice (some ad) (lm W) c], .int .i64 n, .bool true] w (RetVE w (W + n) (Y % 2 ^ (W + n))) := by
  have h1 := h.w1
  have h2 := h.w2
  obtain ⟨R, hR⟩ : ∃ R, Y % 2 ^ (W + n) = R := ⟨_, rfl⟩
  rw [hR]
  have HR := Lib.hid hR
  have HB := Lib.hid hb
  clear hb
  have d1 : decide ((n : Int) < 0) = false := decide_eq_false (by omega)
  have HS : Hid (∀ wx, Calls Try.prog 48 #[.int .i64 W, .int .i64 n] wx fun e w' => e = .returned (.bool true) ∧ wx = w') := fun wx => (sumFits_any W n wx (by omega) (by omega)).mono fun e w' ⟨he, hw⟩ => ⟨by rw [he]; congr 2; exact decide_eq_true (by omega), hw⟩
  have hF0 := Lib.hid (Fr2.first w (.int .i64 W) (.slice (some ad) (lm W) c) (.int .i64 0) (.slice none 0 0) 24 24)
  have hV0 := Lib.hid (h.nx (Fr2.first w (.int .i64 W) (.slice (some ad) (lm W) c) (.int .i64 0) (.slice none 0 0) 24 24).bel)
  generalize hk : lm W = k at *
  have HK := Lib.hid hk
  clear h hk hR
  go_enter Try.func28, Try.ntmps28
  go_wp2_with fail
  refine (HS.out _).mono ?_
  rintro e w9 ⟨rfl, rfl⟩
  go_wp2_with fail
  refine (Right_k HK.out hV0.out).mono ?_
  rintro e w1 ⟨rfl, hb1⟩
  have hF1 := hF0.out.nx hb1
  have hV1 := hV0.out.nx hb1
  obtain ⟨⟨p1, p2⟩, ⟨p3, p4, p5, p6⟩, pz⟩ := hF1.parts
  clear hb1
  go_wp2_with fail
  refine (numberOf_k HK.out hV1).mono ?_
  rintro e w2 ⟨x2, y2, L2, rfl, hb2⟩
  have hF2 := hF1.nx hb2
  have hV2 := hV1.nx hb2
  clear hb2 p1 p2 p3 p4 p5 p6 pz
  obtain ⟨⟨p1, p2⟩, ⟨p3, p4, p5, p6⟩, pz⟩ := hF2.parts
  have pz1 : w.heap.size < w2.heap.size := by omega
  have hF3 := hF2.nx (bal (Below.refl _ _) (.cells #[.int .u64 x2, .int .u64 y2] 62))
  have hV3 := hV2.nx (bal (Below.refl _ _) (.cells #[.int .u64 x2, .int .u64 y2] 62))
  have T3 : Two (w2.alloc (.cells #[.int .u64 x2, .int .u64 y2] 62)) w2.heap.size x2 y2 := by refine ⟨?_, ?_, ?_, ?_⟩ <;> go_simp
  go_wp2_with fail
  refine (isHighest_k HK.out hV3 HB.out).mono ?_
  rintro e w4 ⟨rfl, hb4⟩
  have hF4 := hF3.nx hb4
  have T4 := T3.below hb4 (by simp)
  have hg1 : w.heap.size + 1 < w2.heap.size := pz
  have hg2 : w2.heap.size < w4.heap.size := by have := hb4.size; simp at this; omega
  generalize w2.heap.size = g at *
  clear hb4 p1 p2 p3 p4 p5 p6 pz pz1 hF3 hV3 T3 hF2 hF1
  obtain ⟨⟨p1, p2⟩, ⟨p3, p4, p5, p6⟩, pz⟩ := hF4.parts
  obtain ⟨t1, t2, t3, t4⟩ := two_of T4
  have gn1 : ¬ (w.heap.size + 1 = g) := by omega
  have gn2 : ¬ (g = w.heap.size + 1) := by omega
  have gn3 : ¬ (w.heap.size = g) := by omega
  have gn4 : ¬ (g = w.heap.size) := by omega
  go_wp2_with fail
  go_region_with (first | (go_at_call 56; refine (mask_any W h2 _).mono ?_; rintro e w5 ⟨x5, y5, L5, rfl, hb5⟩; have hF5 := (hF4.nx (Below.refl _ _).drew).nx hb5; have T5 := (T4.below (Below.refl _ _).drew hg2).below hb5 hg2; obtain ⟨u1, u2, u3, u4⟩ := two_of T5; obtain ⟨⟨q1, q2⟩, ⟨q3, q4, q5, q6⟩, qz⟩ := hF5.parts; have hz5 := lt_of_two T5) | (go_at_call 55; refine (not_any L5 _).mono ?_; rintro e w6 ⟨x6, y6, L6, rfl, hb6⟩; have hF6 := hF5.nx hb6; have T6 := T5.below hb6 hz5; obtain ⟨v1, v2, v3, v4⟩ := two_of T6; obtain ⟨⟨r1, r2⟩, ⟨r3, r4, r5, r6⟩, rz⟩ := hF6.parts; have hz6 := lt_of_two T6) | (go_at_call 54; refine (or_any L2 L6 _).mono ?_; rintro e w7 ⟨x7, y7, L7, rfl, hb7⟩; have hF7 := hF6.nx hb7; have T7 := T6.below hb7 hz6; obtain ⟨z1, z2, z3, z4⟩ := two_of T7; obtain ⟨⟨z_1, z_2⟩, ⟨z_3, z_4, z_5, z_6⟩, z_z⟩ := hF7.parts; have hz7 := lt_of_two T7))
  all_goals (
    have hF9 := Fr2.two hF7 hg1 x7 y7
    have T9 := T7.store x7 y7
    obtain ⟨k1, k2, k3, k4⟩ := two_of T9
    obtain ⟨⟨m1, m2⟩, ⟨m3, m4, m5, m6⟩, mz⟩ := hF9.parts
    generalize ((w7.setCell ⟨g, 0, none⟩ (.int .u64 x7)).setCell ⟨g, 1, none⟩ (.int .u64 y7)) = w10 at *
    go_wp2_with fail
    refine (vecOf_at (hY.out _ _ L7) ((W : Int) + (n : Int)) (W + n) (by omega) (by omega) (by omega) _).mono ?_
    rintro e w8 ⟨ad8, c8, rfl, hv8, hf8, hb8⟩
    have hF8 := hF9.nx hb8
    obtain ⟨⟨s1, s2⟩, ⟨s3, s4, s5, s6⟩, sz⟩ := hF8.parts
    rw [HR.out] at hv8
    go_wp2
    refine bodyPost_ret (v := .tuple #[.agg #[.int .i64 ((W : Int) + (n : Int)), .slice (some ad8) (lm (W + n)) c8], .int .i64 0]) (by simp [results, Try.results28, go_sem, *]) rfl ?_
    have e2 : (W : Int) + (n : Int) = ((W + n : Nat) : Int) := by omega
    rw [e2]
    exact RetVE.mk (W := W + n) hv8 hF8.bel (by omega) (by have := hF9.sz; omega))
end Go.Proofs.Ytnnoflohekmnbaa
