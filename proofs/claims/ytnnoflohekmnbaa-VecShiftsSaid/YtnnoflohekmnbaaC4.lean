/-
  vec.Slice and vec.Ite over the translated program. Nothing is assumed.
-/
import Derived.Test.YtnnoflohekmnbaaProg
import Derived.WalkKit
import Derived.WalkSpells
import Derived.WalkLawsBesides
import Derived.LoopN
import Derived.IntWalk
import Derived.Lib.Hide
import Derived.Test.YtnnoflohekmnbaaC3
import Derived.Laws.BitsAllLaws
import Derived.Laws.Externs
import Derived.BigQuiet
import Derived.BigRegion
import Derived.Deep.QuietTactic
import Derived.Deep.RegionWith
import Derived.Deep.RegionHeld3
import Derived.StillTailTactics
import Derived.RegionTactic
import Derived.ChangeAlike
set_option linter.unusedVariables false
namespace Go.Proofs.Ytnnoflohekmnbaa
open Go.RowKit
set_option maxHeartbeats 400000 in
theorem Slice_erra (V : Value) (W hi lo : Int) (w : World) (h0 : lo < 0) : Calls Try.prog 26 #[.agg #[.int .i64 W, V], .int .i64 hi, .int .i64 lo] w (RetErr w 5) := by
  have d1 : decide (lo < 0) = true := decide_eq_true h0
  go_enter Try.func26, Try.ntmps26
  go_wp2
  refine bodyPost_ret (v := .tuple #[.agg #[.int .i64 0, .slice none 0 0], .int .i64 5]) (by simp [results, Try.results26, go_sem]) rfl ⟨rfl, ?_⟩
  repeat (first | exact Below.refl _ _ | refine below_drewN ?_ _ | refine bal ?_ _)
set_option maxHeartbeats 400000 in
theorem Slice_errb (V : Value) (W hi lo : Int) (w : World) (h0 : 0 ≤ lo) (h1 : hi < lo) : Calls Try.prog 26 #[.agg #[.int .i64 W, V], .int .i64 hi, .int .i64 lo] w (RetErr w 5) := by
  have d1 : decide (lo < 0) = false := decide_eq_false (by omega)
  have d2 : decide (hi < lo) = true := decide_eq_true h1
  go_enter Try.func26, Try.ntmps26
  go_wp2
  refine bodyPost_ret (v := .tuple #[.agg #[.int .i64 0, .slice none 0 0], .int .i64 5]) (by simp [results, Try.results26, go_sem]) rfl ⟨rfl, ?_⟩
  repeat (first | exact Below.refl _ _ | refine below_drewN ?_ _ | refine bal ?_ _)
set_option maxHeartbeats 400000 in
theorem Slice_errc (V : Value) (W hi lo : Int) (w : World) (h0 : 0 ≤ lo) (h1 : lo ≤ hi) (h2 : W ≤ hi) : Calls Try.prog 26 #[.agg #[.int .i64 W, V], .int .i64 hi, .int .i64 lo] w (RetErr w 5) := by
  have d1 : decide (lo < 0) = false := decide_eq_false (by omega)
  have d2 : decide (hi < lo) = false := decide_eq_false (by omega)
  have d3 : decide (W ≤ hi) = true := decide_eq_true h2
  go_enter Try.func26, Try.ntmps26
  go_wp2
  refine bodyPost_ret (v := .tuple #[.agg #[.int .i64 0, .slice none 0 0], .int .i64 5]) (by simp [results, Try.results26, go_sem]) rfl ⟨rfl, ?_⟩
  repeat (first | exact Below.refl _ _ | refine below_drewN ?_ _ | refine bal ?_ _)
set_option maxRecDepth 100000 in
set_option maxHeartbeats 1000000 in
theorem Slice_walk {w : World} {ad : Addr} {c W N lo hi m R : Nat} (h : Vc w w.heap.size ad c W N) (h0 : lo ≤ hi) (h1 : hi < W) (hm : (hi : Int) - (lo : Int) + 1 = (m : Int)) (hR : N / 2 ^ lo % 2 ^ m = R) :
    Calls Try.prog 26 #[.agg #[.int .i64 W, .slice (some ad) (lm W) c], .int .i64 hi, .int .i64 lo] w (RetVE w m R) := by
  have h2 := h.w2
  have HR := Lib.hid hR
  have hm1 : 1 ≤ m := by omega
  have hm2 : m ≤ 128 := by omega
  have HM := Lib.hid hm
  have hF0 := Lib.hid (Fr2.first w (.int .i64 W) (.slice (some ad) (lm W) c) (.int .i64 0) (.slice none 0 0) 24 24)
  have hV0 := Lib.hid (h.nx (Fr2.first w (.int .i64 W) (.slice (some ad) (lm W) c) (.int .i64 0) (.slice none 0 0) 24 24).bel)
  have d1 : decide ((lo : Int) < 0) = false := decide_eq_false (by omega)
  have d2 : decide ((hi : Int) < (lo : Int)) = false := decide_eq_false (by omega)
  have d2' : decide (hi < lo) = false := decide_eq_false (by omega)
  have d3 : decide ((W : Int) ≤ (hi : Int)) = false := decide_eq_false (by omega)
  have d3' : decide (W ≤ hi) = false := decide_eq_false (by omega)
  generalize hk : lm W = k at *
  have HK := Lib.hid hk
  clear h hk hR hm
  go_enter Try.func26, Try.ntmps26
  go_wp2_with fail
  refine (Right_k HK.out hV0.out).mono ?_
  rintro e w1 ⟨rfl, hb1⟩
  have hF1 := hF0.out.nx hb1
  have hV1 := hV0.out.nx hb1
  obtain ⟨⟨p1, p2⟩, ⟨p3, p4, p5, p6⟩, pz⟩ := hF1.parts
  clear hb1
  go_wp2_with fail
  refine (numberOf_k HK.out hV1).mono ?_
  rintro e w2 ⟨x2, y2, L2, rfl, hb2⟩
  have hF2 := hF1.nx hb2
  clear hb2 p1 p2 p3 p4 p5 p6 pz
  obtain ⟨⟨p1, p2⟩, ⟨p3, p4, p5, p6⟩, pz⟩ := hF2.parts
  go_wp2_with fail
  refine (down_any L2 lo (by omega) _).mono ?_
  rintro e w3 ⟨x3, y3, L3, rfl, hb3⟩
  have hF3 := hF2.nx hb3
  clear hb3 p1 p2 p3 p4 p5 p6 pz
  obtain ⟨⟨p1, p2⟩, ⟨p3, p4, p5, p6⟩, pz⟩ := hF3.parts
  go_wp2_with fail
  refine (vecOf_at L3 ((hi : Int) - (lo : Int) + 1) m HM.out hm1 hm2 _).mono ?_
  rintro e w4 ⟨ad4, c4, rfl, hv4, hf4, hb4⟩
  have hF4 := hF3.nx hb4
  clear p1 p2 p3 p4 p5 p6 pz
  obtain ⟨⟨p1, p2⟩, ⟨p3, p4, p5, p6⟩, pz⟩ := hF4.parts
  go_wp2
  rw [HR.out] at hv4
  refine bodyPost_ret (v := .tuple #[.agg #[.int .i64 ((hi : Int) - (lo : Int) + 1), .slice (some ad4) (lm m) c4], .int .i64 0]) (by simp [results, Try.results26, go_sem, *]) rfl ?_
  rw [HM.out]
  exact RetVE.mk (W := m) hv4 hF4.bel (by omega) (by have := hF3.sz; omega)
theorem Slice_any {w : World} {ad : Addr} {c W N : Nat} (h : Vc w w.heap.size ad c W N) (hi lo : Nat) (h0 : lo ≤ hi) (h1 : hi < W) :
    Calls Try.prog 26 #[.agg #[.int .i64 W, .slice (some ad) (lm W) c], .int .i64 hi, .int .i64 lo] w (RetVE w (hi - lo + 1) (N / 2 ^ lo % 2 ^ (hi - lo + 1))) :=
  Slice_walk h h0 h1 (by omega) rfl
/-- The world of a function that boxes three vectors and has one result in memory. -/
structure Fr4 (w wr : World) (x0 x1 y0 y1 z0 z1 r0 r1 : Value) : Prop where
  bel : Below w.heap.size w wr
  sz : w.heap.size + 4 ≤ wr.heap.size
  fa : Duo wr w.heap.size x0 x1
  fb : Duo wr (w.heap.size + 1) y0 y1
  fc : Duo wr (w.heap.size + 1 + 1) z0 z1
  fr : Duo wr (w.heap.size + 1 + 1 + 1) r0 r1
theorem Fr4.first (w : World) (x0 x1 y0 y1 z0 z1 r0 r1 : Value) (t u v x : TypeId) : Fr4 w ((((w.alloc (.cells #[x0, x1] t)).alloc (.cells #[y0, y1] u)).alloc (.cells #[z0, z1] v)).alloc (.cells #[r0, r1] x)) x0 x1 y0 y1 z0 z1 r0 r1 := by
  refine ⟨bal (bal (bal (bal (Below.refl _ _) _) _) _) _, by simp, ⟨?_, ?_, ?_, ?_⟩, ⟨?_, ?_, ?_, ?_⟩, ⟨?_, ?_, ?_, ?_⟩, ⟨?_, ?_, ?_, ?_⟩⟩ <;> go_simp
theorem Fr4.nx {w wr w1 : World} {x0 x1 y0 y1 z0 z1 r0 r1 : Value} (h : Fr4 w wr x0 x1 y0 y1 z0 z1 r0 r1) (hb : Below wr.heap.size wr w1) : Fr4 w w1 x0 x1 y0 y1 z0 z1 r0 r1 := by
  have hs := h.sz
  exact ⟨h.bel.trans (hb.mono (by omega)), by have := hb.size; omega, h.fa.below hb (by omega), h.fb.below hb (by omega), h.fc.below hb (by omega), h.fr.below hb (by omega)⟩
theorem Fr4.dr {w wr : World} {x0 x1 y0 y1 z0 z1 r0 r1 : Value} (h : Fr4 w wr x0 x1 y0 y1 z0 z1 r0 r1) : Fr4 w wr.drew x0 x1 y0 y1 z0 z1 r0 r1 := h.nx (Below.refl _ _).drew
theorem Fr4.parts {w wr : World} {x0 x1 y0 y1 z0 z1 r0 r1 : Value} (h : Fr4 w wr x0 x1 y0 y1 z0 z1 r0 r1) :
    (wr.cell? ⟨w.heap.size, 0, none⟩ = some x0 ∧ wr.cell? ⟨w.heap.size, 1, none⟩ = some x1) ∧ (wr.cell? ⟨w.heap.size + 1, 0, none⟩ = some y0 ∧ wr.cell? ⟨w.heap.size + 1, 1, none⟩ = some y1) ∧ (wr.cell? ⟨w.heap.size + 1 + 1, 0, none⟩ = some z0 ∧ wr.cell? ⟨w.heap.size + 1 + 1, 1, none⟩ = some z1) ∧
    (wr.cell? ⟨w.heap.size + 1 + 1 + 1, 0, none⟩ = some r0 ∧ wr.cell? ⟨w.heap.size + 1 + 1 + 1, 1, none⟩ = some r1 ∧ wr.frozen? ⟨w.heap.size + 1 + 1 + 1, 0, none⟩ = false ∧ wr.frozen? ⟨w.heap.size + 1 + 1 + 1, 1, none⟩ = false) ∧ w.heap.size + 1 + 1 + 1 < wr.heap.size :=
  ⟨⟨h.fa.1, h.fa.2.1⟩, ⟨h.fb.1, h.fb.2.1⟩, ⟨h.fc.1, h.fc.2.1⟩, h.fr, by have := h.sz; omega⟩
set_option maxHeartbeats 400000 in
theorem Ite_erra (A B C : Value) (U W V : Int) (w : World) (h0 : U ≠ 1) : Calls Try.prog 30 #[.agg #[.int .i64 U, C], .agg #[.int .i64 W, A], .agg #[.int .i64 V, B]] w (RetErr w 5) := by
  have d1 : (U != 1) = true := by rw [bne_iff_ne]; exact h0
  go_enter Try.func30, Try.ntmps30
  go_wp2
  refine bodyPost_ret (v := .tuple #[.agg #[.int .i64 0, .slice none 0 0], .int .i64 5]) (by simp [results, Try.results30, go_sem]) rfl ⟨rfl, ?_⟩
  repeat (first | exact Below.refl _ _ | refine below_drewN ?_ _ | refine bal ?_ _)
set_option maxHeartbeats 400000 in
theorem Ite_errb (A B C : Value) (U W V : Int) (w : World) (h0 : U = 1) (h1 : W ≠ V) : Calls Try.prog 30 #[.agg #[.int .i64 U, C], .agg #[.int .i64 W, A], .agg #[.int .i64 V, B]] w (RetErr w 5) := by
  subst h0
  have d2 : (W != V) = true := by rw [bne_iff_ne]; exact h1
  go_enter Try.func30, Try.ntmps30
  go_wp2
  refine bodyPost_ret (v := .tuple #[.agg #[.int .i64 0, .slice none 0 0], .int .i64 5]) (by simp [results, Try.results30, go_sem]) rfl ⟨rfl, ?_⟩
  repeat (first | exact Below.refl _ _ | refine below_drewN ?_ _ | refine bal ?_ _)
set_option maxRecDepth 100000 in
set_option maxHeartbeats 1000000 in
theorem Ite_yes {w : World} {ac ad ad' : Addr} {cc c c' W M N K : Nat} (h3 : Vc w w.heap.size ac cc 1 M) (h : Vc w w.heap.size ad c W N) (h' : Vc w w.heap.size ad' c' W K) (hM : tb M 0 = true) :
    Calls Try.prog 30 #[.agg #[.int .i64 1, .slice (some ac) 1 cc], .agg #[.int .i64 W, .slice (some ad) (lm W) c], .agg #[.int .i64 W, .slice (some ad') (lm W) c']] w (RetVE w W N) := by
  have h1 := h.w1
  have h2 := h.w2
  have hR : N % 2 ^ W = N := Nat.mod_eq_of_lt h.n
  have HR := Lib.hid hR
  have HM := Lib.hid hM
  have hF0 := Lib.hid (Fr4.first w (.int .i64 1) (.slice (some ac) 1 cc) (.int .i64 W) (.slice (some ad) (lm W) c) (.int .i64 W) (.slice (some ad') (lm W) c') (.int .i64 0) (.slice none 0 0) 24 24 24 24)
  have hC0 := Lib.hid (h3.nx (Fr4.first w (.int .i64 1) (.slice (some ac) 1 cc) (.int .i64 W) (.slice (some ad) (lm W) c) (.int .i64 W) (.slice (some ad') (lm W) c') (.int .i64 0) (.slice none 0 0) 24 24 24 24).bel)
  have hA0 := Lib.hid (h.nx (Fr4.first w (.int .i64 1) (.slice (some ac) 1 cc) (.int .i64 W) (.slice (some ad) (lm W) c) (.int .i64 W) (.slice (some ad') (lm W) c') (.int .i64 0) (.slice none 0 0) 24 24 24 24).bel)
  have hB0 := Lib.hid (h'.nx (Fr4.first w (.int .i64 1) (.slice (some ac) 1 cc) (.int .i64 W) (.slice (some ad) (lm W) c) (.int .i64 W) (.slice (some ad') (lm W) c') (.int .i64 0) (.slice none 0 0) 24 24 24 24).bel)
  generalize hk : lm W = k at *
  have HK := Lib.hid hk
  have H1 : Hid (lm 1 = 1) := rfl
  clear h h' h3 hk hR hM
  go_enter Try.func30, Try.ntmps30
  go_wp2_with fail
  refine (Right_k (W := 1) H1.out hC0.out).mono ?_
  rintro e w1 ⟨rfl, hb1⟩
  have hF1 := hF0.out.nx hb1
  have hC1 := hC0.out.nx hb1
  have hA1 := hA0.out.nx hb1
  have hB1 := hB0.out.nx hb1
  obtain ⟨⟨p1, p2⟩, ⟨p3, p4⟩, ⟨p5, p6⟩, ⟨p7, p8, p9, p10⟩, pz⟩ := hF1.parts
  clear hb1
  go_wp2_with fail
  refine (Right_k HK.out hA1).mono ?_
  rintro e w2 ⟨rfl, hb2⟩
  have hF2 := hF1.nx hb2
  have hC2 := hC1.nx hb2
  have hA2 := hA1.nx hb2
  have hB2 := hB1.nx hb2
  clear hb2 p1 p2 p3 p4 p5 p6 p7 p8 p9 p10 pz
  obtain ⟨⟨p1, p2⟩, ⟨p3, p4⟩, ⟨p5, p6⟩, ⟨p7, p8, p9, p10⟩, pz⟩ := hF2.parts
  go_wp2_with fail
  refine (Right_k HK.out hB2).mono ?_
  rintro e w3 ⟨rfl, hb3⟩
  have hF3 := hF2.nx hb3
  have hC3 := hC2.nx hb3
  have hA3 := hA2.nx hb3
  have hB3 := hB2.nx hb3
  clear hb3 p1 p2 p3 p4 p5 p6 p7 p8 p9 p10 pz
  obtain ⟨⟨p1, p2⟩, ⟨p3, p4⟩, ⟨p5, p6⟩, ⟨p7, p8, p9, p10⟩, pz⟩ := hF3.parts
  go_wp2_with fail
  have cB := Bit_any hC3 0
  rw [HM.out] at cB
  refine cB.mono ?_
  clear cB
  rintro e w4 ⟨rfl, hb4⟩
  have hF4 := hF3.nx hb4
  have hA4 := hA3.nx hb4
  have hB4 := hB3.nx hb4
  clear hb4 p1 p2 p3 p4 p5 p6 p7 p8 p9 p10 pz
  obtain ⟨⟨p1, p2⟩, ⟨p3, p4⟩, ⟨p5, p6⟩, ⟨p7, p8, p9, p10⟩, pz⟩ := hF4.parts
  go_wp2_with fail
  go_region_held3 (fun w' => w'.cell? ⟨w.heap.size + 1, 0, none⟩ = some (.int .i64 W) ∧ w'.cell? ⟨w.heap.size + 1, 1, none⟩ = some (.slice (some ad) k c))
    (refine ⟨?_, ?_⟩ <;> first | assumption | (go_simp; done))
    (first | (go_at_call 52; refine (numberOf_k HK.out (hA4.nx (Below.refl _ _).drew)).mono ?_; rintro e w5 ⟨x5, y5, L5, rfl, hb5⟩; have hF5 := hF4.dr.nx hb5; obtain ⟨⟨q1, q2⟩, ⟨q3, q4⟩, ⟨q5, q6⟩, ⟨q7, q8, q9, q10⟩, qz⟩ := hF5.parts) | (go_at_call 34; refine (vecOf_any L5 W h1 h2 _).mono ?_; rintro e w6 ⟨ad6, c6, rfl, hv6, hf6, hb6⟩; have hF6 := hF5.nx hb6; obtain ⟨⟨r1, r2⟩, ⟨r3, r4⟩, ⟨r5, r6⟩, ⟨r7, r8, r9, r10⟩, rz⟩ := hF6.parts))
  go_wp2
  rw [HR.out] at hv6
  refine bodyPost_ret (v := .tuple #[.agg #[.int .i64 (W : Int), .slice (some ad6) (lm W) c6], .int .i64 0]) (by simp [results, Try.results30, go_sem, *]) rfl ?_
  exact RetVE.mk (W := W) hv6 hF6.bel (by omega) (by have := hF5.sz; omega)
set_option maxRecDepth 100000 in
set_option maxHeartbeats 1000000 in
theorem Ite_no {w : World} {ac ad ad' : Addr} {cc c c' W M N K : Nat} (h3 : Vc w w.heap.size ac cc 1 M) (h : Vc w w.heap.size ad c W N) (h' : Vc w w.heap.size ad' c' W K) (hM : tb M 0 = false) :
    Calls Try.prog 30 #[.agg #[.int .i64 1, .slice (some ac) 1 cc], .agg #[.int .i64 W, .slice (some ad) (lm W) c], .agg #[.int .i64 W, .slice (some ad') (lm W) c']] w (RetVE w W K) := by
  have h1 := h.w1
  have h2 := h.w2
  have hR : K % 2 ^ W = K := Nat.mod_eq_of_lt h'.n
  have HR := Lib.hid hR
  have HM := Lib.hid hM
  have hF0 := Lib.hid (Fr4.first w (.int .i64 1) (.slice (some ac) 1 cc) (.int .i64 W) (.slice (some ad) (lm W) c) (.int .i64 W) (.slice (some ad') (lm W) c') (.int .i64 0) (.slice none 0 0) 24 24 24 24)
  have hC0 := Lib.hid (h3.nx (Fr4.first w (.int .i64 1) (.slice (some ac) 1 cc) (.int .i64 W) (.slice (some ad) (lm W) c) (.int .i64 W) (.slice (some ad') (lm W) c') (.int .i64 0) (.slice none 0 0) 24 24 24 24).bel)
  have hA0 := Lib.hid (h.nx (Fr4.first w (.int .i64 1) (.slice (some ac) 1 cc) (.int .i64 W) (.slice (some ad) (lm W) c) (.int .i64 W) (.slice (some ad') (lm W) c') (.int .i64 0) (.slice none 0 0) 24 24 24 24).bel)
  have hB0 := Lib.hid (h'.nx (Fr4.first w (.int .i64 1) (.slice (some ac) 1 cc) (.int .i64 W) (.slice (some ad) (lm W) c) (.int .i64 W) (.slice (some ad') (lm W) c') (.int .i64 0) (.slice none 0 0) 24 24 24 24).bel)
  generalize hk : lm W = k at *
  have HK := Lib.hid hk
  have H1 : Hid (lm 1 = 1) := rfl
  clear h h' h3 hk hR hM
  go_enter Try.func30, Try.ntmps30
  go_wp2_with fail
  refine (Right_k (W := 1) H1.out hC0.out).mono ?_
  rintro e w1 ⟨rfl, hb1⟩
  have hF1 := hF0.out.nx hb1
  have hC1 := hC0.out.nx hb1
  have hA1 := hA0.out.nx hb1
  have hB1 := hB0.out.nx hb1
  obtain ⟨⟨p1, p2⟩, ⟨p3, p4⟩, ⟨p5, p6⟩, ⟨p7, p8, p9, p10⟩, pz⟩ := hF1.parts
  clear hb1
  go_wp2_with fail
  refine (Right_k HK.out hA1).mono ?_
  rintro e w2 ⟨rfl, hb2⟩
  have hF2 := hF1.nx hb2
  have hC2 := hC1.nx hb2
  have hA2 := hA1.nx hb2
  have hB2 := hB1.nx hb2
  clear hb2 p1 p2 p3 p4 p5 p6 p7 p8 p9 p10 pz
  obtain ⟨⟨p1, p2⟩, ⟨p3, p4⟩, ⟨p5, p6⟩, ⟨p7, p8, p9, p10⟩, pz⟩ := hF2.parts
  go_wp2_with fail
  refine (Right_k HK.out hB2).mono ?_
  rintro e w3 ⟨rfl, hb3⟩
  have hF3 := hF2.nx hb3
  have hC3 := hC2.nx hb3
  have hA3 := hA2.nx hb3
  have hB3 := hB2.nx hb3
  clear hb3 p1 p2 p3 p4 p5 p6 p7 p8 p9 p10 pz
  obtain ⟨⟨p1, p2⟩, ⟨p3, p4⟩, ⟨p5, p6⟩, ⟨p7, p8, p9, p10⟩, pz⟩ := hF3.parts
  go_wp2_with fail
  have cB := Bit_any hC3 0
  rw [HM.out] at cB
  refine cB.mono ?_
  clear cB
  rintro e w4 ⟨rfl, hb4⟩
  have hF4 := hF3.nx hb4
  have hA4 := hA3.nx hb4
  have hB4 := hB3.nx hb4
  clear hb4 p1 p2 p3 p4 p5 p6 p7 p8 p9 p10 pz
  obtain ⟨⟨p1, p2⟩, ⟨p3, p4⟩, ⟨p5, p6⟩, ⟨p7, p8, p9, p10⟩, pz⟩ := hF4.parts
  go_wp2_with fail
  go_region_held3 (fun w' => w'.cell? ⟨w.heap.size + 1 + 1, 0, none⟩ = some (.int .i64 W) ∧ w'.cell? ⟨w.heap.size + 1 + 1, 1, none⟩ = some (.slice (some ad') k c'))
    (refine ⟨?_, ?_⟩ <;> first | assumption | (go_simp; done))
    (first | (go_at_call 52; refine (numberOf_k HK.out (hB4.nx (Below.refl _ _).drew)).mono ?_; rintro e w5 ⟨x5, y5, L5, rfl, hb5⟩; have hF5 := hF4.dr.nx hb5; obtain ⟨⟨q1, q2⟩, ⟨q3, q4⟩, ⟨q5, q6⟩, ⟨q7, q8, q9, q10⟩, qz⟩ := hF5.parts) | (go_at_call 34; refine (vecOf_any L5 W h1 h2 _).mono ?_; rintro e w6 ⟨ad6, c6, rfl, hv6, hf6, hb6⟩; have hF6 := hF5.nx hb6; obtain ⟨⟨r1, r2⟩, ⟨r3, r4⟩, ⟨r5, r6⟩, ⟨r7, r8, r9, r10⟩, rz⟩ := hF6.parts))
  go_wp2
  rw [HR.out] at hv6
  refine bodyPost_ret (v := .tuple #[.agg #[.int .i64 (W : Int), .slice (some ad6) (lm W) c6], .int .i64 0]) (by simp [results, Try.results30, go_sem, *]) rfl ?_
  exact RetVE.mk (W := W) hv6 hF6.bel (by omega) (by have := hF5.sz; omega)
end Go.Proofs.Ytnnoflohekmnbaa
