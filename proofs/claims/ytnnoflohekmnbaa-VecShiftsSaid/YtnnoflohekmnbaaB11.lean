/-
  The closures ult, concat and eq of vec.binary over the translated program. Nothing is assumed.
-/
import Derived.Test.YtnnoflohekmnbaaProg
import Derived.WalkKit
import Derived.WalkSpells
import Derived.WalkLawsBesides
import Derived.LoopN
import Derived.IntWalk
import Derived.Lib.Hide
import Derived.Test.YtnnoflohekmnbaaB10
import Derived.Laws.BitsAllLaws
import Derived.Laws.Externs
import Derived.BigQuiet
import Derived.BigRegion
import Derived.Deep.QuietTactic
import Derived.Deep.RegionWith
import Derived.Deep.RegionHeld3
import Derived.StillTailTactics
import Derived.RegionTactic
import Derived.ChangeAlike
set_option linter.unusedVariables false
namespace Go.Proofs.Ytnnoflohekmnbaa
open Go.RowKit
theorem vecOf_at {a b N : Nat} (h : Lim a b N) (P : Int) (W : Nat) (hP : P = (W : Int)) (h1 : 1 ≤ W) (h2 : W ≤ 128) (w : World) : Calls Try.prog 34 #[.int .i64 P, .agg #[.int .u64 a, .int .u64 b]] w fun e w' =>
    ∃ ad c, e = .returned (.agg #[.int .i64 P, .slice (some ad) (lm W) c]) ∧ Vc w' w'.heap.size ad c W (N % 2 ^ W) ∧ w.heap.size ≤ ad.block ∧ Below w.heap.size w w' := by
  subst hP; exact vecOf_any h W h1 h2 w
theorem Same_k {w : World} {ad ad' : Addr} {c c' W N K k : Nat} (hk : lm W = k) (h : Vc w w.heap.size ad c W N) (h' : Vc w w.heap.size ad' c' W K) :
    Calls Try.prog 21 #[.agg #[.int .i64 W, .slice (some ad) k c], .agg #[.int .i64 W, .slice (some ad') k c']] w (RetV w (.bool (N == K))) := by
  subst hk; exact Same_any h h'
theorem isHighest_k {w : World} {ad : Addr} {c W N k : Nat} {b : Bool} (hk : lm W = k) (h : Vc w w.heap.size ad c W N) (hb : N.testBit (W - 1) = b) : Calls Try.prog 53 #[.agg #[.int .i64 W, .slice (some ad) k c]] w (RetV w (.bool b)) := by
  subst hk hb; exact isHighest_any h
set_option maxRecDepth 100000 in
set_option maxHeartbeats 2000000 in
theorem ult_any {w : World} {ad ad' : Addr} {c c' W V N K : Nat} (h : Vc w w.heap.size ad c W N) (h' : Vc w w.heap.size ad' c' V K) :
    Calls Try.prog 78 #[.agg #[.int .i64 W, .slice (some ad) (lm W) c], .agg #[.int .i64 V, .slice (some ad') (lm V) c']] w (RetBit w (bn (decide (N < K)))) := by
  have h1 := h.w1
  have h2 := h.w2
  have i1 := h'.w1
  have i2 := h'.w2
  have hF0 := Lib.hid (Fr3.first w (.int .i64 W) (.slice (some ad) (lm W) c) (.int .i64 V) (.slice (some ad') (lm V) c') (.int .i64 0) (.slice none 0 0) 24 24 24)
  have hV0 := Lib.hid ((h.nx (Fr3.first w (.int .i64 W) (.slice (some ad) (lm W) c) (.int .i64 V) (.slice (some ad') (lm V) c') (.int .i64 0) (.slice none 0 0) 24 24 24).bel).nx (Below.refl _ _).drew)
  have hU0 := Lib.hid ((h'.nx (Fr3.first w (.int .i64 W) (.slice (some ad) (lm W) c) (.int .i64 V) (.slice (some ad') (lm V) c') (.int .i64 0) (.slice none 0 0) 24 24 24).bel).nx (Below.refl _ _).drew)
  obtain ⟨Q, hQ⟩ : ∃ Q, decide (N < K) = Q := ⟨_, rfl⟩
  rw [hQ]
  have HQ := Lib.hid hQ
  clear hQ
  generalize hk : lm W = k at *
  generalize hk' : lm V = k' at *
  have HK := Lib.hid hk
  have HK' := Lib.hid hk'
  clear h h' hk hk'
  go_enter Try.func78, Try.ntmps78
  go_wp2_with fail
  go_region_held3 (fun w' => w'.cell? ⟨w.heap.size, 0, none⟩ = some (.int .i64 W) ∧ w'.cell? ⟨w.heap.size, 1, none⟩ = some (.slice (some ad) k c) ∧ w'.cell? ⟨w.heap.size + 1, 0, none⟩ = some (.int .i64 V) ∧ w'.cell? ⟨w.heap.size + 1, 1, none⟩ = some (.slice (some ad') k' c'))
    (refine ⟨?_, ?_, ?_, ?_⟩ <;> first | assumption | go_simp)
    (first | (go_at_call 52; ((with_reducible refine (numberOf_k HK.out hV0.out).mono ?_); rintro e w1 ⟨x1, y1, L1, rfl, hb1⟩; have hF1 := hF0.out.dr.nx hb1; have hU1 := hU0.out.nx hb1; obtain ⟨⟨p1, p2⟩, ⟨p3, p4⟩, ⟨p5, p6, p7, p8⟩, pz⟩ := hF1.parts))
           | (go_at_call 52; ((with_reducible refine (numberOf_k HK'.out hU1).mono ?_); rintro e w2 ⟨x2, y2, L2, rfl, hb2⟩; have hF2 := hF1.nx hb2; obtain ⟨⟨q1, q2⟩, ⟨q3, q4⟩, ⟨q5, q6, q7, q8⟩, qz⟩ := hF2.parts))
           | (go_at_call 79; have cL := less_any L1 L2 w2; rw [HQ.out] at cL; refine cL.mono ?_; clear cL; rintro e w3 ⟨rfl, hb3⟩; have hF3 := hF2.nx hb3; obtain ⟨⟨r1, r2⟩, ⟨r3, r4⟩, ⟨r5, r6, r7, r8⟩, rz⟩ := hF3.parts)
           | (go_at_call 64; refine (truth_any Q _).mono ?_; rintro e w4 ⟨ad2, c2, rfl, hv2, hf2, hb4⟩; have hF4 := hF3.nx hb4; obtain ⟨⟨s1, s2⟩, ⟨s3, s4⟩, ⟨s5, s6, s7, s8⟩, sz⟩ := hF4.parts))
  go_wp2
  refine bodyPost_ret (v := .agg #[.int .i64 1, .slice (some ad2) 1 c2]) (by simp [results, Try.results78, go_sem, *]) rfl ?_
  exact RetVec.mk (W := 1) (n := 1) rfl hv2 hF4.bel (by omega) (by have := hF3.sz; omega)
set_option maxRecDepth 100000 in
set_option maxHeartbeats 2000000 in
theorem concat_any {w : World} {ad ad' : Addr} {c c' W V N K : Nat} (h : Vc w w.heap.size ad c W N) (h' : Vc w w.heap.size ad' c' V K) (hsum : W + V ≤ 128) :
    Calls Try.prog 81 #[.agg #[.int .i64 W, .slice (some ad) (lm W) c], .agg #[.int .i64 V, .slice (some ad') (lm V) c']] w (RetVec w (W + V) ((N * 2 ^ V % 2 ^ 128 ||| K) % 2 ^ (W + V))) := by
  have h1 := h.w1
  have h2 := h.w2
  have i1 := h'.w1
  have i2 := h'.w2
  have hF0 := Lib.hid (Fr3.first w (.int .i64 W) (.slice (some ad) (lm W) c) (.int .i64 V) (.slice (some ad') (lm V) c') (.int .i64 0) (.slice none 0 0) 24 24 24)
  have hV0 := Lib.hid ((h.nx (Fr3.first w (.int .i64 W) (.slice (some ad) (lm W) c) (.int .i64 V) (.slice (some ad') (lm V) c') (.int .i64 0) (.slice none 0 0) 24 24 24).bel).nx (Below.refl _ _).drew)
  have hU0 := Lib.hid ((h'.nx (Fr3.first w (.int .i64 W) (.slice (some ad) (lm W) c) (.int .i64 V) (.slice (some ad') (lm V) c') (.int .i64 0) (.slice none 0 0) 24 24 24).bel).nx (Below.refl _ _).drew)
  obtain ⟨R, hR⟩ : ∃ R, (N * 2 ^ V % 2 ^ 128 ||| K) % 2 ^ (W + V) = R := ⟨_, rfl⟩
  rw [hR]
  have HR := Lib.hid hR
  clear hR
  have e1 : IntKind.i64.wrap ((W : Int) + (V : Int)) = (W : Int) + (V : Int) := w64 _ (by omega) (by omega)
  generalize hk : lm W = k at *
  generalize hk' : lm V = k' at *
  have HK := Lib.hid hk
  have HK' := Lib.hid hk'
  clear h h' hk hk'
  go_enter Try.func81, Try.ntmps81
  go_wp2_with fail
  go_region_held3 (fun w' => w'.cell? ⟨w.heap.size, 0, none⟩ = some (.int .i64 W) ∧ w'.cell? ⟨w.heap.size, 1, none⟩ = some (.slice (some ad) k c) ∧ w'.cell? ⟨w.heap.size + 1, 0, none⟩ = some (.int .i64 V) ∧ w'.cell? ⟨w.heap.size + 1, 1, none⟩ = some (.slice (some ad') k' c'))
    (refine ⟨?_, ?_, ?_, ?_⟩ <;> first | assumption | go_simp)
    (first | (go_at_call 52; ((with_reducible refine (numberOf_k HK.out hV0.out).mono ?_); rintro e w1 ⟨x1, y1, L1, rfl, hb1⟩; have hF1 := hF0.out.dr.nx hb1; have hU1 := hU0.out.nx hb1; obtain ⟨⟨p1, p2⟩, ⟨p3, p4⟩, ⟨p5, p6, p7, p8⟩, pz⟩ := hF1.parts))
           | (go_at_call 75; refine (up_any L1 V i2 _).mono ?_; rintro e w5 ⟨x5, y5, L5, rfl, hb5⟩; have hF5 := hF1.nx hb5; have hU5 := hU1.nx hb5; obtain ⟨⟨t1, t2⟩, ⟨t3, t4⟩, ⟨t5, t6, t7, t8⟩, tz⟩ := hF5.parts)
           | (go_at_call 52; ((with_reducible refine (numberOf_k HK'.out hU5).mono ?_); rintro e w2 ⟨x2, y2, L2, rfl, hb2⟩; have hF2 := hF5.nx hb2; obtain ⟨⟨q1, q2⟩, ⟨q3, q4⟩, ⟨q5, q6, q7, q8⟩, qz⟩ := hF2.parts))
           | (go_at_call 54; refine (or_any L5 L2 _).mono ?_; rintro e w3 ⟨x3, y3, L3, rfl, hb3⟩; have hF3 := hF2.nx hb3; obtain ⟨⟨r1, r2⟩, ⟨r3, r4⟩, ⟨r5, r6, r7, r8⟩, rz⟩ := hF3.parts)
           | (go_at_call 34; refine (vecOf_at L3 ((W : Int) + (V : Int)) (W + V) (by omega) (by omega) (by omega) _).mono ?_; rintro e w4 ⟨ad2, c2, rfl, hv2, hf2, hb4⟩; have hF4 := hF3.nx hb4; obtain ⟨⟨s1, s2⟩, ⟨s3, s4⟩, ⟨s5, s6, s7, s8⟩, sz⟩ := hF4.parts))
  go_wp2
  rw [HR.out] at hv2
  refine bodyPost_ret (v := .agg #[.int .i64 ((W : Int) + (V : Int)), .slice (some ad2) (lm (W + V)) c2]) (by simp [results, Try.results81, go_sem, *]) rfl ?_
  have e2 : (W : Int) + (V : Int) = ((W + V : Nat) : Int) := by omega
  rw [e2]
  exact RetVec.mk (n := lm (W + V)) rfl hv2 hF4.bel (by omega) (by have := hF3.sz; omega)
set_option maxRecDepth 100000 in
set_option maxHeartbeats 2000000 in
theorem eq_same {w : World} {ad ad' : Addr} {c c' W V N K : Nat} (h : Vc w w.heap.size ad c W N) (h' : Vc w w.heap.size ad' c' V K) (hWV : W = V) :
    Calls Try.prog 77 #[.agg #[.int .i64 W, .slice (some ad) (lm W) c], .agg #[.int .i64 V, .slice (some ad') (lm V) c']] w (RetBit w (bn (N == K))) := by
  have h1 := h.w1
  have h2 := h.w2
  have i1 := h'.w1
  have i2 := h'.w2
  have hF0 := Lib.hid (Fr3.first w (.int .i64 W) (.slice (some ad) (lm W) c) (.int .i64 V) (.slice (some ad') (lm V) c') (.int .i64 0) (.slice none 0 0) 24 24 24)
  have hV0 := Lib.hid (h.nx (Fr3.first w (.int .i64 W) (.slice (some ad) (lm W) c) (.int .i64 V) (.slice (some ad') (lm V) c') (.int .i64 0) (.slice none 0 0) 24 24 24).bel)
  have hU0 := Lib.hid (h'.nx (Fr3.first w (.int .i64 W) (.slice (some ad) (lm W) c) (.int .i64 V) (.slice (some ad') (lm V) c') (.int .i64 0) (.slice none 0 0) 24 24 24).bel)
  obtain ⟨Q, hQ⟩ : ∃ Q, (N == K) = Q := ⟨_, rfl⟩
  rw [hQ]
  have HQ := Lib.hid hQ
  clear hQ
  generalize hk : lm W = k at *
  generalize hk' : lm V = k' at *
  have HK := Lib.hid hk
  have HK' := Lib.hid hk'
  clear h h' hk hk'
  subst hWV
  obtain rfl : k = k' := HK.out.symm.trans HK'.out
  go_enter Try.func77, Try.ntmps77
  go_wp2_with fail
  have cS := Same_k HK.out hV0.out hU0.out
  rw [HQ.out] at cS
  refine cS.mono ?_
  clear cS
  rintro e w1 ⟨rfl, hb1⟩
  have hF1 := hF0.out.nx hb1
  obtain ⟨⟨p1, p2⟩, ⟨p3, p4⟩, ⟨p5, p6, p7, p8⟩, pz⟩ := hF1.parts
  clear hb1
  go_wp2_with fail
  refine (truth_any Q _).mono ?_
  rintro e w2 ⟨ad2, c2, rfl, hv2, hf2, hb2⟩
  have hF2 := hF1.nx hb2
  obtain ⟨⟨q1, q2⟩, ⟨q3, q4⟩, ⟨q5, q6, q7, q8⟩, qz⟩ := hF2.parts
  clear p1 p2 p3 p4 p5 p6 p7 p8
  go_wp2
  refine bodyPost_ret (v := .agg #[.int .i64 1, .slice (some ad2) 1 c2]) (by simp [results, Try.results77, go_sem, *]) rfl ?_
  exact RetVec.mk (W := 1) (n := 1) rfl hv2 hF2.bel (by omega) (by have := hF1.sz; omega)
end Go.Proofs.Ytnnoflohekmnbaa
