/-
  VecRing: the way through
-/
import Derived.Test.YtnnoflohekmnbaaProg
import Derived.WalkKit
import Derived.WalkSpells
import Derived.WalkLawsBesides
import Derived.LoopN
import Derived.IntWalk
import Derived.Lib.Hide
import Derived.Test.YtnnoflohekmnbaaE2
import Derived.Laws.BitsAllLaws
import Derived.Laws.Externs
import Derived.BigQuiet
import Derived.BigRegion
import Derived.Deep.QuietTactic
import Derived.Deep.RegionWith
import Derived.Deep.RegionHeld3
import Derived.StillTailTactics
import Derived.RegionTactic
import Derived.ChangeAlike
import Derived.Deep.DeepCutAuto
set_option linter.unusedVariables false
namespace Go.Proofs.Ytnnoflohekmnbaa
open Go.RowKit
theorem keep1 {wr : World} {ga ca ka Wa Na : Nat} {ada : Addr} {xa : Value} (ha : Va wr ga ada ca ka Wa Na xa) : wr.cell? ⟨ga, 0, none⟩ = some xa ∧ wr.cell? ⟨ga, 1, none⟩ = some (.slice (some ada) ka ca) := ⟨ha.parts.1, ha.parts.2.1⟩
theorem keep2 {wr : World} {ga ca ka Wa Na : Nat} {ada : Addr} {xa : Value} (ha : Va wr ga ada ca ka Wa Na xa) {gb cb kb Wb Nb : Nat} {adb : Addr} {xb : Value} (hb : Va wr gb adb cb kb Wb Nb xb) : wr.cell? ⟨ga, 0, none⟩ = some xa ∧ wr.cell? ⟨ga, 1, none⟩ = some (.slice (some ada) ka ca) ∧ wr.cell? ⟨gb, 0, none⟩ = some xb ∧ wr.cell? ⟨gb, 1, none⟩ = some (.slice (some adb) kb cb) := ⟨ha.parts.1, ha.parts.2.1, hb.parts.1, hb.parts.2.1⟩
theorem keep3 {wr : World} {ga ca ka Wa Na : Nat} {ada : Addr} {xa : Value} (ha : Va wr ga ada ca ka Wa Na xa) {gb cb kb Wb Nb : Nat} {adb : Addr} {xb : Value} (hb : Va wr gb adb cb kb Wb Nb xb) {gc cc kc Wc Nc : Nat} {adc : Addr} {xc : Value} (hc : Va wr gc adc cc kc Wc Nc xc) : wr.cell? ⟨ga, 0, none⟩ = some xa ∧ wr.cell? ⟨ga, 1, none⟩ = some (.slice (some ada) ka ca) ∧ wr.cell? ⟨gb, 0, none⟩ = some xb ∧ wr.cell? ⟨gb, 1, none⟩ = some (.slice (some adb) kb cb) ∧ wr.cell? ⟨gc, 0, none⟩ = some xc ∧ wr.cell? ⟨gc, 1, none⟩ = some (.slice (some adc) kc cc) := ⟨ha.parts.1, ha.parts.2.1, hb.parts.1, hb.parts.2.1, hc.parts.1, hc.parts.2.1⟩
theorem keep5 {wr : World} {ga ca ka Wa Na : Nat} {ada : Addr} {xa : Value} (ha : Va wr ga ada ca ka Wa Na xa) {gb cb kb Wb Nb : Nat} {adb : Addr} {xb : Value} (hb : Va wr gb adb cb kb Wb Nb xb) {gc cc kc Wc Nc : Nat} {adc : Addr} {xc : Value} (hc : Va wr gc adc cc kc Wc Nc xc) {gd cd kd Wd Nd : Nat} {add : Addr} {xd : Value} (hd : Va wr gd add cd kd Wd Nd xd) {ge ce ke We Ne : Nat} {ade : Addr} {xe : Value} (he : Va wr ge ade ce ke We Ne xe) : wr.cell? ⟨ga, 0, none⟩ = some xa ∧ wr.cell? ⟨ga, 1, none⟩ = some (.slice (some ada) ka ca) ∧ wr.cell? ⟨gb, 0, none⟩ = some xb ∧ wr.cell? ⟨gb, 1, none⟩ = some (.slice (some adb) kb cb) ∧ wr.cell? ⟨gc, 0, none⟩ = some xc ∧ wr.cell? ⟨gc, 1, none⟩ = some (.slice (some adc) kc cc) ∧ wr.cell? ⟨gd, 0, none⟩ = some xd ∧ wr.cell? ⟨gd, 1, none⟩ = some (.slice (some add) kd cd) ∧ wr.cell? ⟨ge, 0, none⟩ = some xe ∧ wr.cell? ⟨ge, 1, none⟩ = some (.slice (some ade) ke ce) := ⟨ha.parts.1, ha.parts.2.1, hb.parts.1, hb.parts.2.1, hc.parts.1, hc.parts.2.1, hd.parts.1, hd.parts.2.1, he.parts.1, he.parts.2.1⟩
theorem keep6 {wr : World} {ga ca ka Wa Na : Nat} {ada : Addr} {xa : Value} (ha : Va wr ga ada ca ka Wa Na xa) {gb cb kb Wb Nb : Nat} {adb : Addr} {xb : Value} (hb : Va wr gb adb cb kb Wb Nb xb) {gc cc kc Wc Nc : Nat} {adc : Addr} {xc : Value} (hc : Va wr gc adc cc kc Wc Nc xc) {gd cd kd Wd Nd : Nat} {add : Addr} {xd : Value} (hd : Va wr gd add cd kd Wd Nd xd) {ge ce ke We Ne : Nat} {ade : Addr} {xe : Value} (he : Va wr ge ade ce ke We Ne xe) {gf cf kf Wf Nf : Nat} {adf : Addr} {xf : Value} (hf : Va wr gf adf cf kf Wf Nf xf) : wr.cell? ⟨ga, 0, none⟩ = some xa ∧ wr.cell? ⟨ga, 1, none⟩ = some (.slice (some ada) ka ca) ∧ wr.cell? ⟨gb, 0, none⟩ = some xb ∧ wr.cell? ⟨gb, 1, none⟩ = some (.slice (some adb) kb cb) ∧ wr.cell? ⟨gc, 0, none⟩ = some xc ∧ wr.cell? ⟨gc, 1, none⟩ = some (.slice (some adc) kc cc) ∧ wr.cell? ⟨gd, 0, none⟩ = some xd ∧ wr.cell? ⟨gd, 1, none⟩ = some (.slice (some add) kd cd) ∧ wr.cell? ⟨ge, 0, none⟩ = some xe ∧ wr.cell? ⟨ge, 1, none⟩ = some (.slice (some ade) ke ce) ∧ wr.cell? ⟨gf, 0, none⟩ = some xf ∧ wr.cell? ⟨gf, 1, none⟩ = some (.slice (some adf) kf cf) := ⟨ha.parts.1, ha.parts.2.1, hb.parts.1, hb.parts.2.1, hc.parts.1, hc.parts.2.1, hd.parts.1, hd.parts.2.1, he.parts.1, he.parts.2.1, hf.parts.1, hf.parts.2.1⟩
theorem O_ult {w : World} {ad ad' : Addr} {c c' W N K : Nat} (h : Vc w w.heap.size ad c W N) (h' : Vc w w.heap.size ad' c' W K) : Calls Try.prog 32 #[.string ⟨#[117, 108, 116]⟩, .agg #[.int .i64 W, .slice (some ad) (lm W) c], .agg #[.int .i64 W, .slice (some ad') (lm W) c']] w (RetBit w (bn (decide (N < K)))) :=
  (of_ult h h').mono fun e w' hh => hh.bit
theorem Bit_one {w : World} {ad : Addr} {c N : Nat} {b : Bool} (h : Vc w w.heap.size ad c 1 N) (hb : tb N 0 = b) : Calls Try.prog 17 #[.agg #[.int .i64 1, .slice (some ad) 1 c], .int .i64 0] w (RetV w (.bool b)) := Bit_b h hb
theorem three_boxes {w : World} {ada adb adc : Addr} {ca cb cc W N K M : Nat} (ha : Vc w w.heap.size ada ca W N) (hb : Vc w w.heap.size adb cb W K) (hc : Vc w w.heap.size adc cc W M) :
    Va (((w.alloc (.cells #[.int .i64 W, .slice (some ada) (lm W) ca] 24)).alloc (.cells #[.int .i64 W, .slice (some adb) (lm W) cb] 24)).alloc (.cells #[.int .i64 W, .slice (some adc) (lm W) cc] 24)) w.heap.size ada ca (lm W) W N (.int .i64 W) ∧ Va (((w.alloc (.cells #[.int .i64 W, .slice (some ada) (lm W) ca] 24)).alloc (.cells #[.int .i64 W, .slice (some adb) (lm W) cb] 24)).alloc (.cells #[.int .i64 W, .slice (some adc) (lm W) cc] 24)) (w.heap.size + 1) adb cb (lm W) W K (.int .i64 W) ∧ Va (((w.alloc (.cells #[.int .i64 W, .slice (some ada) (lm W) ca] 24)).alloc (.cells #[.int .i64 W, .slice (some adb) (lm W) cb] 24)).alloc (.cells #[.int .i64 W, .slice (some adc) (lm W) cc] 24)) (w.heap.size + 1 + 1) adc cc (lm W) W M (.int .i64 W) ∧ Below w.heap.size w (((w.alloc (.cells #[.int .i64 W, .slice (some ada) (lm W) ca] 24)).alloc (.cells #[.int .i64 W, .slice (some adb) (lm W) cb] 24)).alloc (.cells #[.int .i64 W, .slice (some adc) (lm W) cc] 24)) := by
  obtain ⟨e1, e2, e3⟩ := two_boxes ha hb
  refine ⟨e1.nx (bal (Below.refl _ _) _), e2.nx (bal (Below.refl _ _) _), ?_, bal e3 _⟩
  have := Va.new (hc.nx e3) (lm W) (.int .i64 W)
  simpa using this
set_option maxRecDepth 100000 in
set_option maxHeartbeats 16000000 in
theorem ring_main {w : World} {ada adb adc : Addr} {ca cb cc W N K M : Nat} (ha : Vc w w.heap.size ada ca W N) (hb : Vc w w.heap.size adb cb W K) (hc : Vc w w.heap.size adc cc W M) (E1 : Hid (f_add W N K = f_add W K N)) (E2 : Hid (f_mul W N K = f_mul W K N)) (E3 : Hid (f_add W (f_add W N K) M = f_add W N (f_add W K M))) (E4 : Hid (f_mul W (f_mul W N K) M = f_mul W N (f_mul W K M))) (E5 : Hid (f_mul W (f_add W N K) M = f_add W (f_mul W N M) (f_mul W K M))) (EZ : Hid (K = f_sub W N N → f_udiv W N K = f_not W (f_sub W N N) ∧ f_urem W N K = N)) (EN : Hid (K ≠ f_sub W N N → f_sub W (f_add W N K) K = N ∧ f_add W (f_mul W (f_udiv W N K) K) (f_urem W N K) = N ∧ tb (bn (decide (f_urem W N K < K))) 0 = true)) :
    Calls Try.prog 6 #[.agg #[.int .i64 W, .slice (some ada) (lm W) ca], .agg #[.int .i64 W, .slice (some adb) (lm W) cb], .agg #[.int .i64 W, .slice (some adc) (lm W) cc]] w (RetV w (.bool true)) := by
  have dW : ((W : Int) != (W : Int)) = false := by simp
  go_enter Try.func6, Try.ntmps6
  go_wp2_with fail
  obtain ⟨h_a, h_b, h_c, hB⟩ := three_boxes ha hb hc
  clear ha hb hc
  generalize ((w.alloc (.cells #[.int .i64 W, .slice (some ada) (lm W) ca] 24)).alloc (.cells #[.int .i64 W, .slice (some adb) (lm W) cb] 24)).alloc (.cells #[.int .i64 W, .slice (some adc) (lm W) cc] 24) = w0 at *
  go_wp2_with fail
  refine (shown_any _).mono ?_
  rintro e w1 ⟨rfl, hb1⟩
  replace h_a := h_a.nx hb1
  replace h_b := h_b.nx hb1
  replace h_c := h_c.nx hb1
  replace hB := bnx hB hb1
  obtain ⟨p_a1, p_a2, p_a3⟩ := h_a.parts
  obtain ⟨p_b1, p_b2, p_b3⟩ := h_b.parts
  obtain ⟨p_c1, p_c2, p_c3⟩ := h_c.parts
  clear hb1
  go_wp2_with fail
  refine (refRight_vc h_a.v).mono ?_
  rintro e w2 ⟨rfl, hb2⟩
  clear p_a1 p_a2 p_a3 p_b1 p_b2 p_b3 p_c1 p_c2 p_c3
  replace h_a := h_a.nx hb2
  replace h_b := h_b.nx hb2
  replace h_c := h_c.nx hb2
  replace hB := bnx hB hb2
  obtain ⟨p_a1, p_a2, p_a3⟩ := h_a.parts
  obtain ⟨p_b1, p_b2, p_b3⟩ := h_b.parts
  obtain ⟨p_c1, p_c2, p_c3⟩ := h_c.parts
  clear hb2
  go_wp2_with fail
  refine (refRight_vc h_b.v).mono ?_
  rintro e w3 ⟨rfl, hb3⟩
  clear p_a1 p_a2 p_a3 p_b1 p_b2 p_b3 p_c1 p_c2 p_c3
  replace h_a := h_a.nx hb3
  replace h_b := h_b.nx hb3
  replace h_c := h_c.nx hb3
  replace hB := bnx hB hb3
  obtain ⟨p_a1, p_a2, p_a3⟩ := h_a.parts
  obtain ⟨p_b1, p_b2, p_b3⟩ := h_b.parts
  obtain ⟨p_c1, p_c2, p_c3⟩ := h_c.parts
  clear hb3
  go_wp2_with fail
  refine (refRight_vc h_c.v).mono ?_
  rintro e w4 ⟨rfl, hb4⟩
  clear p_a1 p_a2 p_a3 p_b1 p_b2 p_b3 p_c1 p_c2 p_c3
  replace h_a := h_a.nx hb4
  replace h_b := h_b.nx hb4
  replace h_c := h_c.nx hb4
  replace hB := bnx hB hb4
  obtain ⟨p_a1, p_a2, p_a3⟩ := h_a.parts
  obtain ⟨p_b1, p_b2, p_b3⟩ := h_b.parts
  obtain ⟨p_c1, p_c2, p_c3⟩ := h_c.parts
  clear hb4
  go_wp2_with fail
  refine (O_add h_a.v h_b.v).mono ?_
  rintro e w5 ⟨ad5, c5, rfl, hv5, hf5, hb5⟩
  clear p_a1 p_a2 p_a3 p_b1 p_b2 p_b3 p_c1 p_c2 p_c3
  replace h_a := h_a.nx hb5
  replace h_b := h_b.nx hb5
  replace h_c := h_c.nx hb5
  replace hB := bnx hB hb5
  obtain ⟨p_a1, p_a2, p_a3⟩ := h_a.parts
  obtain ⟨p_b1, p_b2, p_b3⟩ := h_b.parts
  obtain ⟨p_c1, p_c2, p_c3⟩ := h_c.parts
  clear hb5 hf5
  have hn_ab := Va.new hv5 (lm W) (.int .i64 W)
  replace h_a := h_a.nx (bal (Below.refl _ _) (.cells #[.int .i64 W, .slice (some ad5) (lm W) c5] 24))
  replace h_b := h_b.nx (bal (Below.refl _ _) (.cells #[.int .i64 W, .slice (some ad5) (lm W) c5] 24))
  replace h_c := h_c.nx (bal (Below.refl _ _) (.cells #[.int .i64 W, .slice (some ad5) (lm W) c5] 24))
  replace hB := bal hB (.cells #[.int .i64 W, .slice (some ad5) (lm W) c5] 24)
  clear hv5
  have h_ab := hn_ab
  clear hn_ab
  go_wp2_with fail
  generalize w5.alloc (.cells #[.int .i64 W, .slice (some ad5) (lm W) c5] 24) = w5m at *
  generalize w5.heap.size = gw5 at *
  refine (O_mul h_a.v h_b.v).mono ?_
  rintro e w6 ⟨ad6, c6, rfl, hv6, hf6, hb6⟩
  clear p_a1 p_a2 p_a3 p_b1 p_b2 p_b3 p_c1 p_c2 p_c3
  replace h_a := h_a.nx hb6
  replace h_b := h_b.nx hb6
  replace h_c := h_c.nx hb6
  replace h_ab := h_ab.nx hb6
  replace hB := bnx hB hb6
  obtain ⟨p_a1, p_a2, p_a3⟩ := h_a.parts
  obtain ⟨p_b1, p_b2, p_b3⟩ := h_b.parts
  obtain ⟨p_c1, p_c2, p_c3⟩ := h_c.parts
  obtain ⟨p_ab1, p_ab2, p_ab3⟩ := h_ab.parts
  clear hb6 hf6
  have hn_ba := Va.new hv6 (lm W) (.int .i64 W)
  replace h_a := h_a.nx (bal (Below.refl _ _) (.cells #[.int .i64 W, .slice (some ad6) (lm W) c6] 24))
  replace h_b := h_b.nx (bal (Below.refl _ _) (.cells #[.int .i64 W, .slice (some ad6) (lm W) c6] 24))
  replace h_c := h_c.nx (bal (Below.refl _ _) (.cells #[.int .i64 W, .slice (some ad6) (lm W) c6] 24))
  replace h_ab := h_ab.nx (bal (Below.refl _ _) (.cells #[.int .i64 W, .slice (some ad6) (lm W) c6] 24))
  replace hB := bal hB (.cells #[.int .i64 W, .slice (some ad6) (lm W) c6] 24)
  clear hv6
  have h_ba := hn_ba
  clear hn_ba
  go_wp2_with fail
  generalize w6.alloc (.cells #[.int .i64 W, .slice (some ad6) (lm W) c6] 24) = w6m at *
  generalize w6.heap.size = gw6 at *
  have xhU0 := (Below.refl (w6m).heap.size w6m).drew
  have xh_a0 := h_a.nx xhU0
  have xh_b0 := h_b.nx xhU0
  have xh_c0 := h_c.nx xhU0
  have xh_ab0 := h_ab.nx xhU0
  have xh_ba0 := h_ba.nx xhU0
  have xK0 := keep5 xh_a0 xh_b0 xh_c0 xh_ab0 xh_ba0
  clear p_a1 p_a2 p_a3 p_b1 p_b2 p_b3 p_c1 p_c2 p_c3 p_ab1 p_ab2 p_ab3
  go_cut [73] (fun s73 wx => s73 = .bool false ∧ Below (w6m).heap.size w6m wx)
  case first =>
    go_region_held3 (fun w' => w'.cell? ⟨w.heap.size, 0, none⟩ = some (.int .i64 W) ∧ w'.cell? ⟨w.heap.size, 1, none⟩ = some (.slice (some ada) (lm W) ca) ∧ w'.cell? ⟨w.heap.size + 1, 0, none⟩ = some (.int .i64 W) ∧ w'.cell? ⟨w.heap.size + 1, 1, none⟩ = some (.slice (some adb) (lm W) cb) ∧ w'.cell? ⟨w.heap.size + 1 + 1, 0, none⟩ = some (.int .i64 W) ∧ w'.cell? ⟨w.heap.size + 1 + 1, 1, none⟩ = some (.slice (some adc) (lm W) cc) ∧ w'.cell? ⟨gw5, 0, none⟩ = some (.int .i64 W) ∧ w'.cell? ⟨gw5, 1, none⟩ = some (.slice (some ad5) (lm W) c5) ∧ w'.cell? ⟨gw6, 0, none⟩ = some (.int .i64 W) ∧ w'.cell? ⟨gw6, 1, none⟩ = some (.slice (some ad6) (lm W) c6))
      (first | exact xK0 | exact xK1 | exact xK2 | exact xK3 | exact xK4 | exact xK5 | exact xK6)
      (first | (go_at_call 14; ((with_reducible refine (refRight_vc xh_ab0.v).mono ?_); rintro e xu1 ⟨rfl, xhu1⟩; have xh_a1 := xh_a0.nx xhu1; have xh_b1 := xh_b0.nx xhu1; have xh_c1 := xh_c0.nx xhu1; have xh_ab1 := xh_ab0.nx xhu1; have xh_ba1 := xh_ba0.nx xhu1; have xhU1 := bnx xhU0 xhu1; have xK1 := keep5 xh_a1 xh_b1 xh_c1 xh_ab1 xh_ba1)) | (go_at_call 14; ((with_reducible refine (refRight_vc xh_ba1.v).mono ?_); rintro e xu2 ⟨rfl, xhu2⟩; have xh_a2 := xh_a1.nx xhu2; have xh_b2 := xh_b1.nx xhu2; have xh_c2 := xh_c1.nx xhu2; have xh_ab2 := xh_ab1.nx xhu2; have xh_ba2 := xh_ba1.nx xhu2; have xhU2 := bnx xhU1 xhu2; have xK2 := keep5 xh_a2 xh_b2 xh_c2 xh_ab2 xh_ba2)) | (go_at_call 32; ((with_reducible refine (O_add xh_b2.v xh_a2.v).mono ?_); rintro e xu3 ⟨xad3, xc3, rfl, xhv3, xhf3, xhu3⟩; have xh_a3 := xh_a2.nx xhu3; have xh_b3 := xh_b2.nx xhu3; have xh_c3 := xh_c2.nx xhu3; have xh_ab3 := xh_ab2.nx xhu3; have xh_ba3 := xh_ba2.nx xhu3; have xt1_3 := xhv3; have xhU3 := bnx xhU2 xhu3; have xK3 := keep5 xh_a3 xh_b3 xh_c3 xh_ab3 xh_ba3)) | (go_at_call 16; ((with_reducible refine (sam_yes xh_ab3.v xt1_3 E1.out).mono ?_); rintro e xu4 ⟨rfl, xhu4⟩; have xh_a4 := xh_a3.nx xhu4; have xh_b4 := xh_b3.nx xhu4; have xh_c4 := xh_c3.nx xhu4; have xh_ab4 := xh_ab3.nx xhu4; have xh_ba4 := xh_ba3.nx xhu4; have xt1_4 := xt1_3.nx xhu4; have xhU4 := bnx xhU3 xhu4; have xK4 := keep5 xh_a4 xh_b4 xh_c4 xh_ab4 xh_ba4)) | (go_at_call 32; ((with_reducible refine (O_mul xh_b4.v xh_a4.v).mono ?_); rintro e xu5 ⟨xad5, xc5, rfl, xhv5, xhf5, xhu5⟩; have xh_a5 := xh_a4.nx xhu5; have xh_b5 := xh_b4.nx xhu5; have xh_c5 := xh_c4.nx xhu5; have xh_ab5 := xh_ab4.nx xhu5; have xh_ba5 := xh_ba4.nx xhu5; have xt1_5 := xt1_4.nx xhu5; have xt2_5 := xhv5; have xhU5 := bnx xhU4 xhu5; have xK5 := keep5 xh_a5 xh_b5 xh_c5 xh_ab5 xh_ba5)) | (go_at_call 16; ((with_reducible refine (sam_yes xh_ba5.v xt2_5 E2.out).mono ?_); rintro e xu6 ⟨rfl, xhu6⟩; have xh_a6 := xh_a5.nx xhu6; have xh_b6 := xh_b5.nx xhu6; have xh_c6 := xh_c5.nx xhu6; have xh_ab6 := xh_ab5.nx xhu6; have xh_ba6 := xh_ba5.nx xhu6; have xt1_6 := xt1_5.nx xhu6; have xt2_6 := xt2_5.nx xhu6; have xhU6 := bnx xhU5 xhu6; have xK6 := keep5 xh_a6 xh_b6 xh_c6 xh_ab6 xh_ba6)))
    all_goals (go_wp2_with fail; go_meet; exact ⟨rfl, xhU6⟩)
  obtain ⟨rfl, hU⟩ := hcut
  clear xh_a0 xh_b0 xh_c0 xh_ab0 xh_ba0 xK0 xhU0
  replace h_a := h_a.nx hU
  replace h_b := h_b.nx hU
  replace h_c := h_c.nx hU
  replace h_ab := h_ab.nx hU
  replace h_ba := h_ba.nx hU
  replace hB := bnx hB hU
  clear hU
  obtain ⟨p_a1, p_a2, p_a3⟩ := h_a.parts
  obtain ⟨p_b1, p_b2, p_b3⟩ := h_b.parts
  obtain ⟨p_c1, p_c2, p_c3⟩ := h_c.parts
  obtain ⟨p_ab1, p_ab2, p_ab3⟩ := h_ab.parts
  obtain ⟨p_ba1, p_ba2, p_ba3⟩ := h_ba.parts
  go_wp2_with fail
  have yhU0 := (Below.refl (wc).heap.size wc).drew
  have yh_a0 := h_a.nx yhU0
  have yh_b0 := h_b.nx yhU0
  have yh_c0 := h_c.nx yhU0
  have yh_ab0 := h_ab.nx yhU0
  have yh_ba0 := h_ba.nx yhU0
  have yK0 := keep5 yh_a0 yh_b0 yh_c0 yh_ab0 yh_ba0
  clear p_a1 p_a2 p_a3 p_b1 p_b2 p_b3 p_c1 p_c2 p_c3 p_ab1 p_ab2 p_ab3 p_ba1 p_ba2 p_ba3
  go_cut [109] (fun s109 wx => s109 = .bool false ∧ Below (wc).heap.size wc wx)
  case first =>
    go_region_held3 (fun w' => w'.cell? ⟨w.heap.size, 0, none⟩ = some (.int .i64 W) ∧ w'.cell? ⟨w.heap.size, 1, none⟩ = some (.slice (some ada) (lm W) ca) ∧ w'.cell? ⟨w.heap.size + 1, 0, none⟩ = some (.int .i64 W) ∧ w'.cell? ⟨w.heap.size + 1, 1, none⟩ = some (.slice (some adb) (lm W) cb) ∧ w'.cell? ⟨w.heap.size + 1 + 1, 0, none⟩ = some (.int .i64 W) ∧ w'.cell? ⟨w.heap.size + 1 + 1, 1, none⟩ = some (.slice (some adc) (lm W) cc) ∧ w'.cell? ⟨gw5, 0, none⟩ = some (.int .i64 W) ∧ w'.cell? ⟨gw5, 1, none⟩ = some (.slice (some ad5) (lm W) c5) ∧ w'.cell? ⟨gw6, 0, none⟩ = some (.int .i64 W) ∧ w'.cell? ⟨gw6, 1, none⟩ = some (.slice (some ad6) (lm W) c6))
      (first | exact yK0 | exact yK1 | exact yK2 | exact yK3 | exact yK4 | exact yK5 | exact yK6 | exact yK7 | exact yK8 | exact yK9 | exact yK10 | exact yK11 | exact yK12 | exact yK13)
      (first | (go_at_call 32; ((with_reducible refine (O_add yh_ab0.v yh_c0.v).mono ?_); rintro e yu1 ⟨yad1, yc1, rfl, yhv1, yhf1, yhu1⟩; have yh_a1 := yh_a0.nx yhu1; have yh_b1 := yh_b0.nx yhu1; have yh_c1 := yh_c0.nx yhu1; have yh_ab1 := yh_ab0.nx yhu1; have yh_ba1 := yh_ba0.nx yhu1; have yt1_1 := yhv1; have yhU1 := bnx yhU0 yhu1; have yK1 := keep5 yh_a1 yh_b1 yh_c1 yh_ab1 yh_ba1)) | (go_at_call 32; ((with_reducible refine (O_add yh_b1.v yh_c1.v).mono ?_); rintro e yu2 ⟨yad2, yc2, rfl, yhv2, yhf2, yhu2⟩; have yh_a2 := yh_a1.nx yhu2; have yh_b2 := yh_b1.nx yhu2; have yh_c2 := yh_c1.nx yhu2; have yh_ab2 := yh_ab1.nx yhu2; have yh_ba2 := yh_ba1.nx yhu2; have yt1_2 := yt1_1.nx yhu2; have yt2_2 := yhv2; have yhU2 := bnx yhU1 yhu2; have yK2 := keep5 yh_a2 yh_b2 yh_c2 yh_ab2 yh_ba2)) | (go_at_call 32; ((with_reducible refine (O_add yh_a2.v yt2_2).mono ?_); rintro e yu3 ⟨yad3, yc3, rfl, yhv3, yhf3, yhu3⟩; have yh_a3 := yh_a2.nx yhu3; have yh_b3 := yh_b2.nx yhu3; have yh_c3 := yh_c2.nx yhu3; have yh_ab3 := yh_ab2.nx yhu3; have yh_ba3 := yh_ba2.nx yhu3; have yt1_3 := yt1_2.nx yhu3; have yt2_3 := yt2_2.nx yhu3; have yt3_3 := yhv3; have yhU3 := bnx yhU2 yhu3; have yK3 := keep5 yh_a3 yh_b3 yh_c3 yh_ab3 yh_ba3)) | (go_at_call 16; ((with_reducible refine (sam_yes yt1_3 yt3_3 E3.out).mono ?_); rintro e yu4 ⟨rfl, yhu4⟩; have yh_a4 := yh_a3.nx yhu4; have yh_b4 := yh_b3.nx yhu4; have yh_c4 := yh_c3.nx yhu4; have yh_ab4 := yh_ab3.nx yhu4; have yh_ba4 := yh_ba3.nx yhu4; have yt1_4 := yt1_3.nx yhu4; have yt2_4 := yt2_3.nx yhu4; have yt3_4 := yt3_3.nx yhu4; have yhU4 := bnx yhU3 yhu4; have yK4 := keep5 yh_a4 yh_b4 yh_c4 yh_ab4 yh_ba4)) | (go_at_call 32; ((with_reducible refine (O_mul yh_ba4.v yh_c4.v).mono ?_); rintro e yu5 ⟨yad5, yc5, rfl, yhv5, yhf5, yhu5⟩; have yh_a5 := yh_a4.nx yhu5; have yh_b5 := yh_b4.nx yhu5; have yh_c5 := yh_c4.nx yhu5; have yh_ab5 := yh_ab4.nx yhu5; have yh_ba5 := yh_ba4.nx yhu5; have yt1_5 := yt1_4.nx yhu5; have yt2_5 := yt2_4.nx yhu5; have yt3_5 := yt3_4.nx yhu5; have yt4_5 := yhv5; have yhU5 := bnx yhU4 yhu5; have yK5 := keep5 yh_a5 yh_b5 yh_c5 yh_ab5 yh_ba5)) | (go_at_call 32; ((with_reducible refine (O_mul yh_b5.v yh_c5.v).mono ?_); rintro e yu6 ⟨yad6, yc6, rfl, yhv6, yhf6, yhu6⟩; have yh_a6 := yh_a5.nx yhu6; have yh_b6 := yh_b5.nx yhu6; have yh_c6 := yh_c5.nx yhu6; have yh_ab6 := yh_ab5.nx yhu6; have yh_ba6 := yh_ba5.nx yhu6; have yt1_6 := yt1_5.nx yhu6; have yt2_6 := yt2_5.nx yhu6; have yt3_6 := yt3_5.nx yhu6; have yt4_6 := yt4_5.nx yhu6; have yt5_6 := yhv6; have yhU6 := bnx yhU5 yhu6; have yK6 := keep5 yh_a6 yh_b6 yh_c6 yh_ab6 yh_ba6)) | (go_at_call 32; ((with_reducible refine (O_mul yh_a6.v yt5_6).mono ?_); rintro e yu7 ⟨yad7, yc7, rfl, yhv7, yhf7, yhu7⟩; have yh_a7 := yh_a6.nx yhu7; have yh_b7 := yh_b6.nx yhu7; have yh_c7 := yh_c6.nx yhu7; have yh_ab7 := yh_ab6.nx yhu7; have yh_ba7 := yh_ba6.nx yhu7; have yt1_7 := yt1_6.nx yhu7; have yt2_7 := yt2_6.nx yhu7; have yt3_7 := yt3_6.nx yhu7; have yt4_7 := yt4_6.nx yhu7; have yt5_7 := yt5_6.nx yhu7; have yt6_7 := yhv7; have yhU7 := bnx yhU6 yhu7; have yK7 := keep5 yh_a7 yh_b7 yh_c7 yh_ab7 yh_ba7)) | (go_at_call 16; ((with_reducible refine (sam_yes yt4_7 yt6_7 E4.out).mono ?_); rintro e yu8 ⟨rfl, yhu8⟩; have yh_a8 := yh_a7.nx yhu8; have yh_b8 := yh_b7.nx yhu8; have yh_c8 := yh_c7.nx yhu8; have yh_ab8 := yh_ab7.nx yhu8; have yh_ba8 := yh_ba7.nx yhu8; have yt1_8 := yt1_7.nx yhu8; have yt2_8 := yt2_7.nx yhu8; have yt3_8 := yt3_7.nx yhu8; have yt4_8 := yt4_7.nx yhu8; have yt5_8 := yt5_7.nx yhu8; have yt6_8 := yt6_7.nx yhu8; have yhU8 := bnx yhU7 yhu8; have yK8 := keep5 yh_a8 yh_b8 yh_c8 yh_ab8 yh_ba8)) | (go_at_call 32; ((with_reducible refine (O_mul yh_ab8.v yh_c8.v).mono ?_); rintro e yu9 ⟨yad9, yc9, rfl, yhv9, yhf9, yhu9⟩; have yh_a9 := yh_a8.nx yhu9; have yh_b9 := yh_b8.nx yhu9; have yh_c9 := yh_c8.nx yhu9; have yh_ab9 := yh_ab8.nx yhu9; have yh_ba9 := yh_ba8.nx yhu9; have yt1_9 := yt1_8.nx yhu9; have yt2_9 := yt2_8.nx yhu9; have yt3_9 := yt3_8.nx yhu9; have yt4_9 := yt4_8.nx yhu9; have yt5_9 := yt5_8.nx yhu9; have yt6_9 := yt6_8.nx yhu9; have yt7_9 := yhv9; have yhU9 := bnx yhU8 yhu9; have yK9 := keep5 yh_a9 yh_b9 yh_c9 yh_ab9 yh_ba9)) | (go_at_call 32; ((with_reducible refine (O_mul yh_a9.v yh_c9.v).mono ?_); rintro e yu10 ⟨yad10, yc10, rfl, yhv10, yhf10, yhu10⟩; have yh_a10 := yh_a9.nx yhu10; have yh_b10 := yh_b9.nx yhu10; have yh_c10 := yh_c9.nx yhu10; have yh_ab10 := yh_ab9.nx yhu10; have yh_ba10 := yh_ba9.nx yhu10; have yt1_10 := yt1_9.nx yhu10; have yt2_10 := yt2_9.nx yhu10; have yt3_10 := yt3_9.nx yhu10; have yt4_10 := yt4_9.nx yhu10; have yt5_10 := yt5_9.nx yhu10; have yt6_10 := yt6_9.nx yhu10; have yt7_10 := yt7_9.nx yhu10; have yt8_10 := yhv10; have yhU10 := bnx yhU9 yhu10; have yK10 := keep5 yh_a10 yh_b10 yh_c10 yh_ab10 yh_ba10)) | (go_at_call 32; ((with_reducible refine (O_mul yh_b10.v yh_c10.v).mono ?_); rintro e yu11 ⟨yad11, yc11, rfl, yhv11, yhf11, yhu11⟩; have yh_a11 := yh_a10.nx yhu11; have yh_b11 := yh_b10.nx yhu11; have yh_c11 := yh_c10.nx yhu11; have yh_ab11 := yh_ab10.nx yhu11; have yh_ba11 := yh_ba10.nx yhu11; have yt1_11 := yt1_10.nx yhu11; have yt2_11 := yt2_10.nx yhu11; have yt3_11 := yt3_10.nx yhu11; have yt4_11 := yt4_10.nx yhu11; have yt5_11 := yt5_10.nx yhu11; have yt6_11 := yt6_10.nx yhu11; have yt7_11 := yt7_10.nx yhu11; have yt8_11 := yt8_10.nx yhu11; have yt9_11 := yhv11; have yhU11 := bnx yhU10 yhu11; have yK11 := keep5 yh_a11 yh_b11 yh_c11 yh_ab11 yh_ba11)) | (go_at_call 32; ((with_reducible refine (O_add yt8_11 yt9_11).mono ?_); rintro e yu12 ⟨yad12, yc12, rfl, yhv12, yhf12, yhu12⟩; have yh_a12 := yh_a11.nx yhu12; have yh_b12 := yh_b11.nx yhu12; have yh_c12 := yh_c11.nx yhu12; have yh_ab12 := yh_ab11.nx yhu12; have yh_ba12 := yh_ba11.nx yhu12; have yt1_12 := yt1_11.nx yhu12; have yt2_12 := yt2_11.nx yhu12; have yt3_12 := yt3_11.nx yhu12; have yt4_12 := yt4_11.nx yhu12; have yt5_12 := yt5_11.nx yhu12; have yt6_12 := yt6_11.nx yhu12; have yt7_12 := yt7_11.nx yhu12; have yt8_12 := yt8_11.nx yhu12; have yt9_12 := yt9_11.nx yhu12; have yt10_12 := yhv12; have yhU12 := bnx yhU11 yhu12; have yK12 := keep5 yh_a12 yh_b12 yh_c12 yh_ab12 yh_ba12)) | (go_at_call 16; ((with_reducible refine (sam_yes yt7_12 yt10_12 E5.out).mono ?_); rintro e yu13 ⟨rfl, yhu13⟩; have yh_a13 := yh_a12.nx yhu13; have yh_b13 := yh_b12.nx yhu13; have yh_c13 := yh_c12.nx yhu13; have yh_ab13 := yh_ab12.nx yhu13; have yh_ba13 := yh_ba12.nx yhu13; have yt1_13 := yt1_12.nx yhu13; have yt2_13 := yt2_12.nx yhu13; have yt3_13 := yt3_12.nx yhu13; have yt4_13 := yt4_12.nx yhu13; have yt5_13 := yt5_12.nx yhu13; have yt6_13 := yt6_12.nx yhu13; have yt7_13 := yt7_12.nx yhu13; have yt8_13 := yt8_12.nx yhu13; have yt9_13 := yt9_12.nx yhu13; have yt10_13 := yt10_12.nx yhu13; have yhU13 := bnx yhU12 yhu13; have yK13 := keep5 yh_a13 yh_b13 yh_c13 yh_ab13 yh_ba13)))
    all_goals (go_wp2_with fail; go_meet; exact ⟨rfl, yhU13⟩)
  obtain ⟨rfl, hU⟩ := hcut
  clear yh_a0 yh_b0 yh_c0 yh_ab0 yh_ba0 yK0 yhU0
  replace h_a := h_a.nx hU
  replace h_b := h_b.nx hU
  replace h_c := h_c.nx hU
  replace h_ab := h_ab.nx hU
  replace h_ba := h_ba.nx hU
  replace hB := bnx hB hU
  clear hU
  obtain ⟨p_a1, p_a2, p_a3⟩ := h_a.parts
  obtain ⟨p_b1, p_b2, p_b3⟩ := h_b.parts
  obtain ⟨p_c1, p_c2, p_c3⟩ := h_c.parts
  obtain ⟨p_ab1, p_ab2, p_ab3⟩ := h_ab.parts
  obtain ⟨p_ba1, p_ba2, p_ba3⟩ := h_ba.parts
  go_wp2_with fail
  refine (O_udiv h_a.v h_b.v).mono ?_
  rintro e w7 ⟨ad7, c7, rfl, hv7, hf7, hb7⟩
  clear p_a1 p_a2 p_a3 p_b1 p_b2 p_b3 p_c1 p_c2 p_c3 p_ab1 p_ab2 p_ab3 p_ba1 p_ba2 p_ba3
  replace h_a := h_a.nx hb7
  replace h_b := h_b.nx hb7
  replace h_c := h_c.nx hb7
  replace h_ab := h_ab.nx hb7
  replace h_ba := h_ba.nx hb7
  replace hB := bnx hB hb7
  obtain ⟨p_a1, p_a2, p_a3⟩ := h_a.parts
  obtain ⟨p_b1, p_b2, p_b3⟩ := h_b.parts
  obtain ⟨p_c1, p_c2, p_c3⟩ := h_c.parts
  obtain ⟨p_ab1, p_ab2, p_ab3⟩ := h_ab.parts
  obtain ⟨p_ba1, p_ba2, p_ba3⟩ := h_ba.parts
  clear hb7 hf7
  have hn_q := Va.new hv7 (lm W) (.int .i64 W)
  replace h_a := h_a.nx (bal (Below.refl _ _) (.cells #[.int .i64 W, .slice (some ad7) (lm W) c7] 24))
  replace h_b := h_b.nx (bal (Below.refl _ _) (.cells #[.int .i64 W, .slice (some ad7) (lm W) c7] 24))
  replace h_c := h_c.nx (bal (Below.refl _ _) (.cells #[.int .i64 W, .slice (some ad7) (lm W) c7] 24))
  replace h_ab := h_ab.nx (bal (Below.refl _ _) (.cells #[.int .i64 W, .slice (some ad7) (lm W) c7] 24))
  replace h_ba := h_ba.nx (bal (Below.refl _ _) (.cells #[.int .i64 W, .slice (some ad7) (lm W) c7] 24))
  replace hB := bal hB (.cells #[.int .i64 W, .slice (some ad7) (lm W) c7] 24)
  clear hv7
  have h_q := hn_q
  clear hn_q
  go_wp2_with fail
  generalize w7.alloc (.cells #[.int .i64 W, .slice (some ad7) (lm W) c7] 24) = w7m at *
  generalize w7.heap.size = gw7 at *
  refine (O_urem h_a.v h_b.v).mono ?_
  rintro e w8 ⟨ad8, c8, rfl, hv8, hf8, hb8⟩
  clear p_a1 p_a2 p_a3 p_b1 p_b2 p_b3 p_c1 p_c2 p_c3 p_ab1 p_ab2 p_ab3 p_ba1 p_ba2 p_ba3
  replace h_a := h_a.nx hb8
  replace h_b := h_b.nx hb8
  replace h_c := h_c.nx hb8
  replace h_ab := h_ab.nx hb8
  replace h_ba := h_ba.nx hb8
  replace h_q := h_q.nx hb8
  replace hB := bnx hB hb8
  obtain ⟨p_a1, p_a2, p_a3⟩ := h_a.parts
  obtain ⟨p_b1, p_b2, p_b3⟩ := h_b.parts
  obtain ⟨p_c1, p_c2, p_c3⟩ := h_c.parts
  obtain ⟨p_ab1, p_ab2, p_ab3⟩ := h_ab.parts
  obtain ⟨p_ba1, p_ba2, p_ba3⟩ := h_ba.parts
  obtain ⟨p_q1, p_q2, p_q3⟩ := h_q.parts
  clear hb8 hf8
  have hn_r := Va.new hv8 (lm W) (.int .i64 W)
  replace h_a := h_a.nx (bal (Below.refl _ _) (.cells #[.int .i64 W, .slice (some ad8) (lm W) c8] 24))
  replace h_b := h_b.nx (bal (Below.refl _ _) (.cells #[.int .i64 W, .slice (some ad8) (lm W) c8] 24))
  replace h_c := h_c.nx (bal (Below.refl _ _) (.cells #[.int .i64 W, .slice (some ad8) (lm W) c8] 24))
  replace h_ab := h_ab.nx (bal (Below.refl _ _) (.cells #[.int .i64 W, .slice (some ad8) (lm W) c8] 24))
  replace h_ba := h_ba.nx (bal (Below.refl _ _) (.cells #[.int .i64 W, .slice (some ad8) (lm W) c8] 24))
  replace h_q := h_q.nx (bal (Below.refl _ _) (.cells #[.int .i64 W, .slice (some ad8) (lm W) c8] 24))
  replace hB := bal hB (.cells #[.int .i64 W, .slice (some ad8) (lm W) c8] 24)
  clear hv8
  have h_r := hn_r
  clear hn_r
  go_wp2_with fail
  generalize w8.alloc (.cells #[.int .i64 W, .slice (some ad8) (lm W) c8] 24) = w8m at *
  generalize w8.heap.size = gw8 at *
  refine (O_sub h_a.v h_a.v).mono ?_
  rintro e w9 ⟨ad9, c9, rfl, hv9, hf9, hb9⟩
  clear p_a1 p_a2 p_a3 p_b1 p_b2 p_b3 p_c1 p_c2 p_c3 p_ab1 p_ab2 p_ab3 p_ba1 p_ba2 p_ba3 p_q1 p_q2 p_q3
  replace h_a := h_a.nx hb9
  replace h_b := h_b.nx hb9
  replace h_c := h_c.nx hb9
  replace h_ab := h_ab.nx hb9
  replace h_ba := h_ba.nx hb9
  replace h_q := h_q.nx hb9
  replace h_r := h_r.nx hb9
  replace hB := bnx hB hb9
  obtain ⟨p_a1, p_a2, p_a3⟩ := h_a.parts
  obtain ⟨p_b1, p_b2, p_b3⟩ := h_b.parts
  obtain ⟨p_c1, p_c2, p_c3⟩ := h_c.parts
  obtain ⟨p_ab1, p_ab2, p_ab3⟩ := h_ab.parts
  obtain ⟨p_ba1, p_ba2, p_ba3⟩ := h_ba.parts
  obtain ⟨p_q1, p_q2, p_q3⟩ := h_q.parts
  obtain ⟨p_r1, p_r2, p_r3⟩ := h_r.parts
  clear hb9 hf9
  have hn_zero := Va.new hv9 (lm W) (.int .i64 W)
  replace h_a := h_a.nx (bal (Below.refl _ _) (.cells #[.int .i64 W, .slice (some ad9) (lm W) c9] 24))
  replace h_b := h_b.nx (bal (Below.refl _ _) (.cells #[.int .i64 W, .slice (some ad9) (lm W) c9] 24))
  replace h_c := h_c.nx (bal (Below.refl _ _) (.cells #[.int .i64 W, .slice (some ad9) (lm W) c9] 24))
  replace h_ab := h_ab.nx (bal (Below.refl _ _) (.cells #[.int .i64 W, .slice (some ad9) (lm W) c9] 24))
  replace h_ba := h_ba.nx (bal (Below.refl _ _) (.cells #[.int .i64 W, .slice (some ad9) (lm W) c9] 24))
  replace h_q := h_q.nx (bal (Below.refl _ _) (.cells #[.int .i64 W, .slice (some ad9) (lm W) c9] 24))
  replace h_r := h_r.nx (bal (Below.refl _ _) (.cells #[.int .i64 W, .slice (some ad9) (lm W) c9] 24))
  replace hB := bal hB (.cells #[.int .i64 W, .slice (some ad9) (lm W) c9] 24)
  clear hv9
  have h_zero := hn_zero
  clear hn_zero
  go_wp2_with fail
  generalize w9.alloc (.cells #[.int .i64 W, .slice (some ad9) (lm W) c9] 24) = w9m at *
  generalize w9.heap.size = gw9 at *
  rcases Classical.em (K = f_sub W N N) with hz | hz
  · have Z := Lib.hid (EZ.out hz)
    have HZ := Lib.hid hz
    clear hz EZ EN
    refine (sam_yes h_b.v h_zero.v HZ.out).mono ?_
    rintro e w10 ⟨rfl, hb10⟩
    clear p_a1 p_a2 p_a3 p_b1 p_b2 p_b3 p_c1 p_c2 p_c3 p_ab1 p_ab2 p_ab3 p_ba1 p_ba2 p_ba3 p_q1 p_q2 p_q3 p_r1 p_r2 p_r3
    replace h_a := h_a.nx hb10
    replace h_b := h_b.nx hb10
    replace h_c := h_c.nx hb10
    replace h_ab := h_ab.nx hb10
    replace h_ba := h_ba.nx hb10
    replace h_q := h_q.nx hb10
    replace h_r := h_r.nx hb10
    replace h_zero := h_zero.nx hb10
    replace hB := bnx hB hb10
    obtain ⟨p_a1, p_a2, p_a3⟩ := h_a.parts
    obtain ⟨p_b1, p_b2, p_b3⟩ := h_b.parts
    obtain ⟨p_c1, p_c2, p_c3⟩ := h_c.parts
    obtain ⟨p_ab1, p_ab2, p_ab3⟩ := h_ab.parts
    obtain ⟨p_ba1, p_ba2, p_ba3⟩ := h_ba.parts
    obtain ⟨p_q1, p_q2, p_q3⟩ := h_q.parts
    obtain ⟨p_r1, p_r2, p_r3⟩ := h_r.parts
    obtain ⟨p_zero1, p_zero2, p_zero3⟩ := h_zero.parts
    clear hb10
    go_wp2_with fail
    refine (U_not h_zero.v).mono ?_
    rintro e w11 ⟨ad11, c11, rfl, hv11, hf11, hb11⟩
    clear p_a1 p_a2 p_a3 p_b1 p_b2 p_b3 p_c1 p_c2 p_c3 p_ab1 p_ab2 p_ab3 p_ba1 p_ba2 p_ba3 p_q1 p_q2 p_q3 p_r1 p_r2 p_r3 p_zero1 p_zero2 p_zero3
    replace h_a := h_a.nx hb11
    replace h_b := h_b.nx hb11
    replace h_c := h_c.nx hb11
    replace h_ab := h_ab.nx hb11
    replace h_ba := h_ba.nx hb11
    replace h_q := h_q.nx hb11
    replace h_r := h_r.nx hb11
    replace h_zero := h_zero.nx hb11
    replace hB := bnx hB hb11
    obtain ⟨p_a1, p_a2, p_a3⟩ := h_a.parts
    obtain ⟨p_b1, p_b2, p_b3⟩ := h_b.parts
    obtain ⟨p_c1, p_c2, p_c3⟩ := h_c.parts
    obtain ⟨p_ab1, p_ab2, p_ab3⟩ := h_ab.parts
    obtain ⟨p_ba1, p_ba2, p_ba3⟩ := h_ba.parts
    obtain ⟨p_q1, p_q2, p_q3⟩ := h_q.parts
    obtain ⟨p_r1, p_r2, p_r3⟩ := h_r.parts
    obtain ⟨p_zero1, p_zero2, p_zero3⟩ := h_zero.parts
    clear hb11 hf11
    have hn_ones := Va.new hv11 (lm W) (.int .i64 W)
    replace h_a := h_a.nx (bal (Below.refl _ _) (.cells #[.int .i64 W, .slice (some ad11) (lm W) c11] 24))
    replace h_b := h_b.nx (bal (Below.refl _ _) (.cells #[.int .i64 W, .slice (some ad11) (lm W) c11] 24))
    replace h_c := h_c.nx (bal (Below.refl _ _) (.cells #[.int .i64 W, .slice (some ad11) (lm W) c11] 24))
    replace h_ab := h_ab.nx (bal (Below.refl _ _) (.cells #[.int .i64 W, .slice (some ad11) (lm W) c11] 24))
    replace h_ba := h_ba.nx (bal (Below.refl _ _) (.cells #[.int .i64 W, .slice (some ad11) (lm W) c11] 24))
    replace h_q := h_q.nx (bal (Below.refl _ _) (.cells #[.int .i64 W, .slice (some ad11) (lm W) c11] 24))
    replace h_r := h_r.nx (bal (Below.refl _ _) (.cells #[.int .i64 W, .slice (some ad11) (lm W) c11] 24))
    replace h_zero := h_zero.nx (bal (Below.refl _ _) (.cells #[.int .i64 W, .slice (some ad11) (lm W) c11] 24))
    replace hB := bal hB (.cells #[.int .i64 W, .slice (some ad11) (lm W) c11] 24)
    clear hv11
    have h_ones := hn_ones
    clear hn_ones
    go_wp2_with fail
    generalize w11.alloc (.cells #[.int .i64 W, .slice (some ad11) (lm W) c11] 24) = w11m at *
    generalize w11.heap.size = gw11 at *
    refine (sam_yes h_q.v h_ones.v Z.out.1).mono ?_
    rintro e w12 ⟨rfl, hb12⟩
    clear p_a1 p_a2 p_a3 p_b1 p_b2 p_b3 p_c1 p_c2 p_c3 p_ab1 p_ab2 p_ab3 p_ba1 p_ba2 p_ba3 p_q1 p_q2 p_q3 p_r1 p_r2 p_r3 p_zero1 p_zero2 p_zero3
    replace h_a := h_a.nx hb12
    replace h_b := h_b.nx hb12
    replace h_c := h_c.nx hb12
    replace h_ab := h_ab.nx hb12
    replace h_ba := h_ba.nx hb12
    replace h_q := h_q.nx hb12
    replace h_r := h_r.nx hb12
    replace h_zero := h_zero.nx hb12
    replace h_ones := h_ones.nx hb12
    replace hB := bnx hB hb12
    obtain ⟨p_a1, p_a2, p_a3⟩ := h_a.parts
    obtain ⟨p_b1, p_b2, p_b3⟩ := h_b.parts
    obtain ⟨p_c1, p_c2, p_c3⟩ := h_c.parts
    obtain ⟨p_ab1, p_ab2, p_ab3⟩ := h_ab.parts
    obtain ⟨p_ba1, p_ba2, p_ba3⟩ := h_ba.parts
    obtain ⟨p_q1, p_q2, p_q3⟩ := h_q.parts
    obtain ⟨p_r1, p_r2, p_r3⟩ := h_r.parts
    obtain ⟨p_zero1, p_zero2, p_zero3⟩ := h_zero.parts
    obtain ⟨p_ones1, p_ones2, p_ones3⟩ := h_ones.parts
    clear hb12
    go_wp2_with fail
    refine (sam_yes h_r.v h_a.v Z.out.2).mono ?_
    rintro e w13 ⟨rfl, hb13⟩
    clear p_a1 p_a2 p_a3 p_b1 p_b2 p_b3 p_c1 p_c2 p_c3 p_ab1 p_ab2 p_ab3 p_ba1 p_ba2 p_ba3 p_q1 p_q2 p_q3 p_r1 p_r2 p_r3 p_zero1 p_zero2 p_zero3 p_ones1 p_ones2 p_ones3
    replace h_a := h_a.nx hb13
    replace h_b := h_b.nx hb13
    replace h_c := h_c.nx hb13
    replace h_ab := h_ab.nx hb13
    replace h_ba := h_ba.nx hb13
    replace h_q := h_q.nx hb13
    replace h_r := h_r.nx hb13
    replace h_zero := h_zero.nx hb13
    replace h_ones := h_ones.nx hb13
    replace hB := bnx hB hb13
    obtain ⟨p_a1, p_a2, p_a3⟩ := h_a.parts
    obtain ⟨p_b1, p_b2, p_b3⟩ := h_b.parts
    obtain ⟨p_c1, p_c2, p_c3⟩ := h_c.parts
    obtain ⟨p_ab1, p_ab2, p_ab3⟩ := h_ab.parts
    obtain ⟨p_ba1, p_ba2, p_ba3⟩ := h_ba.parts
    obtain ⟨p_q1, p_q2, p_q3⟩ := h_q.parts
    obtain ⟨p_r1, p_r2, p_r3⟩ := h_r.parts
    obtain ⟨p_zero1, p_zero2, p_zero3⟩ := h_zero.parts
    obtain ⟨p_ones1, p_ones2, p_ones3⟩ := h_ones.parts
    clear hb13
    go_wp2
    go_ret
    exact ⟨rfl, hB⟩
  · have Z := Lib.hid (EN.out hz)
    have HZ := Lib.hid hz
    clear hz EZ EN
    refine (sam_no h_b.v h_zero.v HZ.out).mono ?_
    rintro e w10 ⟨rfl, hb10⟩
    clear p_a1 p_a2 p_a3 p_b1 p_b2 p_b3 p_c1 p_c2 p_c3 p_ab1 p_ab2 p_ab3 p_ba1 p_ba2 p_ba3 p_q1 p_q2 p_q3 p_r1 p_r2 p_r3
    replace h_a := h_a.nx hb10
    replace h_b := h_b.nx hb10
    replace h_c := h_c.nx hb10
    replace h_ab := h_ab.nx hb10
    replace h_ba := h_ba.nx hb10
    replace h_q := h_q.nx hb10
    replace h_r := h_r.nx hb10
    replace h_zero := h_zero.nx hb10
    replace hB := bnx hB hb10
    obtain ⟨p_a1, p_a2, p_a3⟩ := h_a.parts
    obtain ⟨p_b1, p_b2, p_b3⟩ := h_b.parts
    obtain ⟨p_c1, p_c2, p_c3⟩ := h_c.parts
    obtain ⟨p_ab1, p_ab2, p_ab3⟩ := h_ab.parts
    obtain ⟨p_ba1, p_ba2, p_ba3⟩ := h_ba.parts
    obtain ⟨p_q1, p_q2, p_q3⟩ := h_q.parts
    obtain ⟨p_r1, p_r2, p_r3⟩ := h_r.parts
    obtain ⟨p_zero1, p_zero2, p_zero3⟩ := h_zero.parts
    clear hb10
    go_wp2_with fail
    have zhU0 := (Below.refl (w10).heap.size w10).drew
    have zh_a0 := h_a.nx zhU0
    have zh_b0 := h_b.nx zhU0
    have zh_ab0 := h_ab.nx zhU0
    have zh_q0 := h_q.nx zhU0
    have zh_r0 := h_r.nx zhU0
    have zK0 := keep5 zh_a0 zh_b0 zh_ab0 zh_q0 zh_r0
    clear p_a1 p_a2 p_a3 p_b1 p_b2 p_b3 p_c1 p_c2 p_c3 p_ab1 p_ab2 p_ab3 p_ba1 p_ba2 p_ba3 p_q1 p_q2 p_q3 p_r1 p_r2 p_r3 p_zero1 p_zero2 p_zero3
    go_cut [6] (fun s6 wx => s6 = .bool true ∧ Below (w10).heap.size w10 wx)
    case first =>
      go_region_held3 (fun w' => w'.cell? ⟨w.heap.size, 0, none⟩ = some (.int .i64 W) ∧ w'.cell? ⟨w.heap.size, 1, none⟩ = some (.slice (some ada) (lm W) ca) ∧ w'.cell? ⟨w.heap.size + 1, 0, none⟩ = some (.int .i64 W) ∧ w'.cell? ⟨w.heap.size + 1, 1, none⟩ = some (.slice (some adb) (lm W) cb) ∧ w'.cell? ⟨gw5, 0, none⟩ = some (.int .i64 W) ∧ w'.cell? ⟨gw5, 1, none⟩ = some (.slice (some ad5) (lm W) c5) ∧ w'.cell? ⟨gw7, 0, none⟩ = some (.int .i64 W) ∧ w'.cell? ⟨gw7, 1, none⟩ = some (.slice (some ad7) (lm W) c7) ∧ w'.cell? ⟨gw8, 0, none⟩ = some (.int .i64 W) ∧ w'.cell? ⟨gw8, 1, none⟩ = some (.slice (some ad8) (lm W) c8))
        (first | exact zK0 | exact zK1 | exact zK2 | exact zK3 | exact zK4 | exact zK5 | exact zK6 | exact zK7)
        (first | (go_at_call 32; ((with_reducible refine (O_sub zh_ab0.v zh_b0.v).mono ?_); rintro e zu1 ⟨zad1, zc1, rfl, zhv1, zhf1, zhu1⟩; have zh_a1 := zh_a0.nx zhu1; have zh_b1 := zh_b0.nx zhu1; have zh_ab1 := zh_ab0.nx zhu1; have zh_q1 := zh_q0.nx zhu1; have zh_r1 := zh_r0.nx zhu1; have zt1_1 := zhv1; have zhU1 := bnx zhU0 zhu1; have zK1 := keep5 zh_a1 zh_b1 zh_ab1 zh_q1 zh_r1)) | (go_at_call 16; ((with_reducible refine (sam_yes zt1_1 zh_a1.v Z.out.1).mono ?_); rintro e zu2 ⟨rfl, zhu2⟩; have zh_a2 := zh_a1.nx zhu2; have zh_b2 := zh_b1.nx zhu2; have zh_ab2 := zh_ab1.nx zhu2; have zh_q2 := zh_q1.nx zhu2; have zh_r2 := zh_r1.nx zhu2; have zt1_2 := zt1_1.nx zhu2; have zhU2 := bnx zhU1 zhu2; have zK2 := keep5 zh_a2 zh_b2 zh_ab2 zh_q2 zh_r2)) | (go_at_call 32; ((with_reducible refine (O_mul zh_q2.v zh_b2.v).mono ?_); rintro e zu3 ⟨zad3, zc3, rfl, zhv3, zhf3, zhu3⟩; have zh_a3 := zh_a2.nx zhu3; have zh_b3 := zh_b2.nx zhu3; have zh_ab3 := zh_ab2.nx zhu3; have zh_q3 := zh_q2.nx zhu3; have zh_r3 := zh_r2.nx zhu3; have zt1_3 := zt1_2.nx zhu3; have zt2_3 := zhv3; have zhU3 := bnx zhU2 zhu3; have zK3 := keep5 zh_a3 zh_b3 zh_ab3 zh_q3 zh_r3)) | (go_at_call 32; ((with_reducible refine (O_add zt2_3 zh_r3.v).mono ?_); rintro e zu4 ⟨zad4, zc4, rfl, zhv4, zhf4, zhu4⟩; have zh_a4 := zh_a3.nx zhu4; have zh_b4 := zh_b3.nx zhu4; have zh_ab4 := zh_ab3.nx zhu4; have zh_q4 := zh_q3.nx zhu4; have zh_r4 := zh_r3.nx zhu4; have zt1_4 := zt1_3.nx zhu4; have zt2_4 := zt2_3.nx zhu4; have zt3_4 := zhv4; have zhU4 := bnx zhU3 zhu4; have zK4 := keep5 zh_a4 zh_b4 zh_ab4 zh_q4 zh_r4)) | (go_at_call 16; ((with_reducible refine (sam_yes zt3_4 zh_a4.v Z.out.2.1).mono ?_); rintro e zu5 ⟨rfl, zhu5⟩; have zh_a5 := zh_a4.nx zhu5; have zh_b5 := zh_b4.nx zhu5; have zh_ab5 := zh_ab4.nx zhu5; have zh_q5 := zh_q4.nx zhu5; have zh_r5 := zh_r4.nx zhu5; have zt1_5 := zt1_4.nx zhu5; have zt2_5 := zt2_4.nx zhu5; have zt3_5 := zt3_4.nx zhu5; have zhU5 := bnx zhU4 zhu5; have zK5 := keep5 zh_a5 zh_b5 zh_ab5 zh_q5 zh_r5)) | (go_at_call 32; ((with_reducible refine (O_ult zh_r5.v zh_b5.v).mono ?_); rintro e zu6 ⟨zad6, zc6, rfl, zhv6, zhf6, zhu6⟩; have zh_a6 := zh_a5.nx zhu6; have zh_b6 := zh_b5.nx zhu6; have zh_ab6 := zh_ab5.nx zhu6; have zh_q6 := zh_q5.nx zhu6; have zh_r6 := zh_r5.nx zhu6; have zt1_6 := zt1_5.nx zhu6; have zt2_6 := zt2_5.nx zhu6; have zt3_6 := zt3_5.nx zhu6; have zt4_6 := zhv6; have zhU6 := bnx zhU5 zhu6; have zK6 := keep5 zh_a6 zh_b6 zh_ab6 zh_q6 zh_r6)) | (go_at_call 17; ((with_reducible refine (Bit_one zt4_6 Z.out.2.2).mono ?_); rintro e zu7 ⟨rfl, zhu7⟩; have zh_a7 := zh_a6.nx zhu7; have zh_b7 := zh_b6.nx zhu7; have zh_ab7 := zh_ab6.nx zhu7; have zh_q7 := zh_q6.nx zhu7; have zh_r7 := zh_r6.nx zhu7; have zt1_7 := zt1_6.nx zhu7; have zt2_7 := zt2_6.nx zhu7; have zt3_7 := zt3_6.nx zhu7; have zt4_7 := zt4_6.nx zhu7; have zhU7 := bnx zhU6 zhu7; have zK7 := keep5 zh_a7 zh_b7 zh_ab7 zh_q7 zh_r7)))
      all_goals (go_wp2_with fail; go_meet; exact ⟨rfl, zhU7⟩)
    obtain ⟨rfl, hU⟩ := hcut
    clear zh_a0 zh_b0 zh_ab0 zh_q0 zh_r0 zK0 zhU0
    replace h_a := h_a.nx hU
    replace h_b := h_b.nx hU
    replace h_c := h_c.nx hU
    replace h_ab := h_ab.nx hU
    replace h_ba := h_ba.nx hU
    replace h_q := h_q.nx hU
    replace h_r := h_r.nx hU
    replace h_zero := h_zero.nx hU
    replace hB := bnx hB hU
    clear hU
    obtain ⟨p_a1, p_a2, p_a3⟩ := h_a.parts
    obtain ⟨p_b1, p_b2, p_b3⟩ := h_b.parts
    obtain ⟨p_c1, p_c2, p_c3⟩ := h_c.parts
    obtain ⟨p_ab1, p_ab2, p_ab3⟩ := h_ab.parts
    obtain ⟨p_ba1, p_ba2, p_ba3⟩ := h_ba.parts
    obtain ⟨p_q1, p_q2, p_q3⟩ := h_q.parts
    obtain ⟨p_r1, p_r2, p_r3⟩ := h_r.parts
    obtain ⟨p_zero1, p_zero2, p_zero3⟩ := h_zero.parts
    go_wp2
    go_ret
    exact ⟨rfl, hB⟩
end Go.Proofs.Ytnnoflohekmnbaa
