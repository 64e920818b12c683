/-
  VecBits: the way through
-/
import Derived.Test.YtnnoflohekmnbaaProg
import Derived.WalkKit
import Derived.WalkSpells
import Derived.WalkLawsBesides
import Derived.LoopN
import Derived.IntWalk
import Derived.Lib.Hide
import Derived.Test.YtnnoflohekmnbaaE1
import Derived.Laws.BitsAllLaws
import Derived.Laws.Externs
import Derived.BigQuiet
import Derived.BigRegion
import Derived.Deep.QuietTactic
import Derived.Deep.RegionWith
import Derived.Deep.RegionHeld3
import Derived.StillTailTactics
import Derived.RegionTactic
import Derived.ChangeAlike
import Derived.Deep.DeepCutAuto
set_option linter.unusedVariables false
namespace Go.Proofs.Ytnnoflohekmnbaa
open Go.RowKit
theorem box_keep {wr : World} {g g' : Nat} {ad ad' : Addr} {c k W N c' k' W' N' : Nat} {x0 y0 : Value} (h : Va wr g ad c k W N x0) (h' : Va wr g' ad' c' k' W' N' y0) : wr.cell? ⟨g, 0, none⟩ = some x0 ∧ wr.cell? ⟨g, 1, none⟩ = some (.slice (some ad) k c) ∧ wr.cell? ⟨g', 0, none⟩ = some y0 ∧ wr.cell? ⟨g', 1, none⟩ = some (.slice (some ad') k' c') :=
  ⟨h.parts.1, h.parts.2.1, h'.parts.1, h'.parts.2.1⟩
set_option maxRecDepth 100000 in
set_option maxHeartbeats 8000000 in
theorem bits_main {w : World} {ad ad' : Addr} {c c' W N K : Nat} (h : Vc w w.heap.size ad c W N) (h' : Vc w w.heap.size ad' c' W K) (i : Int) (d0 : decide (i < 0) = false) (d1 : decide ((W : Int) ≤ i) = false) (x y : Bool)
    (HX : Hid (tb N i = x)) (HY : Hid (tb K i = y)) (HN : Hid (tb (f_not W N) i = !x)) (HA : Hid (tb (f_and W N K) i = (x && y))) (HO : Hid (tb (f_or W N K) i = (x || y))) (HXo : Hid (tb (f_xor W N K) i = (x != y)))
    (E1 : Hid (f_dec W (f_inc W N) = N)) (E2 : Hid (f_neg W N = f_inc W (f_not W N))) (E3 : Hid (f_or W (f_not W N) (f_not W K) = f_not W (f_and W N K))) :
    Calls Try.prog 7 #[.agg #[.int .i64 W, .slice (some ad) (lm W) c], .agg #[.int .i64 W, .slice (some ad') (lm W) c'], .int .i64 i] w (RetV w (.bool true)) := by
  have dW : ((W : Int) != (W : Int)) = false := by simp
  go_enter Try.func7, Try.ntmps7
  go_wp2_with fail
  obtain ⟨h_a, h_b, hB⟩ := two_boxes h h'
  clear h h'
  generalize (w.alloc (.cells #[.int .i64 W, .slice (some ad) (lm W) c] 24)).alloc (.cells #[.int .i64 W, .slice (some ad') (lm W) c'] 24) = w0 at *
  go_wp2_with fail
  refine (shown_any _).mono ?_
  rintro e w1 ⟨rfl, hb1⟩
  replace h_a := h_a.nx hb1
  replace h_b := h_b.nx hb1
  replace hB := bnx hB hb1
  obtain ⟨p_a1, p_a2, p_a3⟩ := h_a.parts
  obtain ⟨p_b1, p_b2, p_b3⟩ := h_b.parts
  clear hb1
  go_wp2_with fail
  refine (refRight_vc h_a.v).mono ?_
  rintro e w2 ⟨rfl, hb2⟩
  clear p_a1 p_a2 p_a3 p_b1 p_b2 p_b3
  replace h_a := h_a.nx hb2
  replace h_b := h_b.nx hb2
  replace hB := bnx hB hb2
  obtain ⟨p_a1, p_a2, p_a3⟩ := h_a.parts
  obtain ⟨p_b1, p_b2, p_b3⟩ := h_b.parts
  clear hb2
  go_wp2_with fail
  refine (refRight_vc h_b.v).mono ?_
  rintro e w3 ⟨rfl, hb3⟩
  clear p_a1 p_a2 p_a3 p_b1 p_b2 p_b3
  replace h_a := h_a.nx hb3
  replace h_b := h_b.nx hb3
  replace hB := bnx hB hb3
  obtain ⟨p_a1, p_a2, p_a3⟩ := h_a.parts
  obtain ⟨p_b1, p_b2, p_b3⟩ := h_b.parts
  clear hb3
  go_wp2_with fail
  refine (U_not h_a.v).mono ?_
  rintro e w4 ⟨ad4, c4, rfl, hv4, hf4, hb4⟩
  clear p_a1 p_a2 p_a3 p_b1 p_b2 p_b3
  replace h_a := h_a.nx hb4
  replace h_b := h_b.nx hb4
  replace hB := bnx hB hb4
  obtain ⟨p_a1, p_a2, p_a3⟩ := h_a.parts
  obtain ⟨p_b1, p_b2, p_b3⟩ := h_b.parts
  clear hb4 hf4
  have hn_n := Va.new hv4 (lm W) (.int .i64 W)
  replace h_a := h_a.nx (bal (Below.refl _ _) (.cells #[.int .i64 W, .slice (some ad4) (lm W) c4] 24))
  replace h_b := h_b.nx (bal (Below.refl _ _) (.cells #[.int .i64 W, .slice (some ad4) (lm W) c4] 24))
  replace hB := bal hB (.cells #[.int .i64 W, .slice (some ad4) (lm W) c4] 24)
  clear hv4
  have h_n := hn_n
  clear hn_n
  go_wp2_with fail
  generalize w4.alloc (.cells #[.int .i64 W, .slice (some ad4) (lm W) c4] 24) = w4m at *
  generalize w4.heap.size = gw4 at *
  refine (U_not h_b.v).mono ?_
  rintro e w5 ⟨ad5, c5, rfl, hv5, hf5, hb5⟩
  clear p_a1 p_a2 p_a3 p_b1 p_b2 p_b3
  replace h_a := h_a.nx hb5
  replace h_b := h_b.nx hb5
  replace h_n := h_n.nx hb5
  replace hB := bnx hB hb5
  obtain ⟨p_a1, p_a2, p_a3⟩ := h_a.parts
  obtain ⟨p_b1, p_b2, p_b3⟩ := h_b.parts
  obtain ⟨p_n1, p_n2, p_n3⟩ := h_n.parts
  clear hb5 hf5
  have hn_m := Va.new hv5 (lm W) (.int .i64 W)
  replace h_a := h_a.nx (bal (Below.refl _ _) (.cells #[.int .i64 W, .slice (some ad5) (lm W) c5] 24))
  replace h_b := h_b.nx (bal (Below.refl _ _) (.cells #[.int .i64 W, .slice (some ad5) (lm W) c5] 24))
  replace h_n := h_n.nx (bal (Below.refl _ _) (.cells #[.int .i64 W, .slice (some ad5) (lm W) c5] 24))
  replace hB := bal hB (.cells #[.int .i64 W, .slice (some ad5) (lm W) c5] 24)
  clear hv5
  have h_m := hn_m
  clear hn_m
  go_wp2_with fail
  generalize w5.alloc (.cells #[.int .i64 W, .slice (some ad5) (lm W) c5] 24) = w5m at *
  generalize w5.heap.size = gw5 at *
  refine (U_inc h_a.v).mono ?_
  rintro e w6 ⟨ad6, c6, rfl, hv6, hf6, hb6⟩
  clear p_a1 p_a2 p_a3 p_b1 p_b2 p_b3 p_n1 p_n2 p_n3
  replace h_a := h_a.nx hb6
  replace h_b := h_b.nx hb6
  replace h_n := h_n.nx hb6
  replace h_m := h_m.nx hb6
  replace hB := bnx hB hb6
  obtain ⟨p_a1, p_a2, p_a3⟩ := h_a.parts
  obtain ⟨p_b1, p_b2, p_b3⟩ := h_b.parts
  obtain ⟨p_n1, p_n2, p_n3⟩ := h_n.parts
  obtain ⟨p_m1, p_m2, p_m3⟩ := h_m.parts
  clear hb6 hf6
  have hn_inc := Va.new hv6 (lm W) (.int .i64 W)
  replace h_a := h_a.nx (bal (Below.refl _ _) (.cells #[.int .i64 W, .slice (some ad6) (lm W) c6] 24))
  replace h_b := h_b.nx (bal (Below.refl _ _) (.cells #[.int .i64 W, .slice (some ad6) (lm W) c6] 24))
  replace h_n := h_n.nx (bal (Below.refl _ _) (.cells #[.int .i64 W, .slice (some ad6) (lm W) c6] 24))
  replace h_m := h_m.nx (bal (Below.refl _ _) (.cells #[.int .i64 W, .slice (some ad6) (lm W) c6] 24))
  replace hB := bal hB (.cells #[.int .i64 W, .slice (some ad6) (lm W) c6] 24)
  clear hv6
  have h_inc := hn_inc
  clear hn_inc
  go_wp2_with fail
  generalize w6.alloc (.cells #[.int .i64 W, .slice (some ad6) (lm W) c6] 24) = w6m at *
  generalize w6.heap.size = gw6 at *
  refine (U_dec h_inc.v).mono ?_
  rintro e w7 ⟨ad7, c7, rfl, hv7, hf7, hb7⟩
  clear p_a1 p_a2 p_a3 p_b1 p_b2 p_b3 p_n1 p_n2 p_n3 p_m1 p_m2 p_m3
  replace h_a := h_a.nx hb7
  replace h_b := h_b.nx hb7
  replace h_n := h_n.nx hb7
  replace h_m := h_m.nx hb7
  replace h_inc := h_inc.nx hb7
  replace hB := bnx hB hb7
  obtain ⟨p_a1, p_a2, p_a3⟩ := h_a.parts
  obtain ⟨p_b1, p_b2, p_b3⟩ := h_b.parts
  obtain ⟨p_n1, p_n2, p_n3⟩ := h_n.parts
  obtain ⟨p_m1, p_m2, p_m3⟩ := h_m.parts
  obtain ⟨p_inc1, p_inc2, p_inc3⟩ := h_inc.parts
  clear hb7 hf7
  have hn_dec := Va.new hv7 (lm W) (.int .i64 W)
  replace h_a := h_a.nx (bal (Below.refl _ _) (.cells #[.int .i64 W, .slice (some ad7) (lm W) c7] 24))
  replace h_b := h_b.nx (bal (Below.refl _ _) (.cells #[.int .i64 W, .slice (some ad7) (lm W) c7] 24))
  replace h_n := h_n.nx (bal (Below.refl _ _) (.cells #[.int .i64 W, .slice (some ad7) (lm W) c7] 24))
  replace h_m := h_m.nx (bal (Below.refl _ _) (.cells #[.int .i64 W, .slice (some ad7) (lm W) c7] 24))
  replace h_inc := h_inc.nx (bal (Below.refl _ _) (.cells #[.int .i64 W, .slice (some ad7) (lm W) c7] 24))
  replace hB := bal hB (.cells #[.int .i64 W, .slice (some ad7) (lm W) c7] 24)
  clear hv7
  have h_dec := hn_dec
  clear hn_dec
  go_wp2_with fail
  generalize w7.alloc (.cells #[.int .i64 W, .slice (some ad7) (lm W) c7] 24) = w7m at *
  generalize w7.heap.size = gw7 at *
  refine (U_neg h_a.v).mono ?_
  rintro e w8 ⟨ad8, c8, rfl, hv8, hf8, hb8⟩
  clear p_a1 p_a2 p_a3 p_b1 p_b2 p_b3 p_n1 p_n2 p_n3 p_m1 p_m2 p_m3 p_inc1 p_inc2 p_inc3
  replace h_a := h_a.nx hb8
  replace h_b := h_b.nx hb8
  replace h_n := h_n.nx hb8
  replace h_m := h_m.nx hb8
  replace h_inc := h_inc.nx hb8
  replace h_dec := h_dec.nx hb8
  replace hB := bnx hB hb8
  obtain ⟨p_a1, p_a2, p_a3⟩ := h_a.parts
  obtain ⟨p_b1, p_b2, p_b3⟩ := h_b.parts
  obtain ⟨p_n1, p_n2, p_n3⟩ := h_n.parts
  obtain ⟨p_m1, p_m2, p_m3⟩ := h_m.parts
  obtain ⟨p_inc1, p_inc2, p_inc3⟩ := h_inc.parts
  obtain ⟨p_dec1, p_dec2, p_dec3⟩ := h_dec.parts
  clear hb8 hf8
  have hn_neg := Va.new hv8 (lm W) (.int .i64 W)
  replace h_a := h_a.nx (bal (Below.refl _ _) (.cells #[.int .i64 W, .slice (some ad8) (lm W) c8] 24))
  replace h_b := h_b.nx (bal (Below.refl _ _) (.cells #[.int .i64 W, .slice (some ad8) (lm W) c8] 24))
  replace h_n := h_n.nx (bal (Below.refl _ _) (.cells #[.int .i64 W, .slice (some ad8) (lm W) c8] 24))
  replace h_m := h_m.nx (bal (Below.refl _ _) (.cells #[.int .i64 W, .slice (some ad8) (lm W) c8] 24))
  replace h_inc := h_inc.nx (bal (Below.refl _ _) (.cells #[.int .i64 W, .slice (some ad8) (lm W) c8] 24))
  replace h_dec := h_dec.nx (bal (Below.refl _ _) (.cells #[.int .i64 W, .slice (some ad8) (lm W) c8] 24))
  replace hB := bal hB (.cells #[.int .i64 W, .slice (some ad8) (lm W) c8] 24)
  clear hv8
  have h_neg := hn_neg
  clear hn_neg
  go_wp2_with fail
  generalize w8.alloc (.cells #[.int .i64 W, .slice (some ad8) (lm W) c8] 24) = w8m at *
  generalize w8.heap.size = gw8 at *
  refine (U_inc h_n.v).mono ?_
  rintro e w9 ⟨ad9, c9, rfl, hv9, hf9, hb9⟩
  clear p_a1 p_a2 p_a3 p_b1 p_b2 p_b3 p_n1 p_n2 p_n3 p_m1 p_m2 p_m3 p_inc1 p_inc2 p_inc3 p_dec1 p_dec2 p_dec3
  replace h_a := h_a.nx hb9
  replace h_b := h_b.nx hb9
  replace h_n := h_n.nx hb9
  replace h_m := h_m.nx hb9
  replace h_inc := h_inc.nx hb9
  replace h_dec := h_dec.nx hb9
  replace h_neg := h_neg.nx hb9
  replace hB := bnx hB hb9
  obtain ⟨p_a1, p_a2, p_a3⟩ := h_a.parts
  obtain ⟨p_b1, p_b2, p_b3⟩ := h_b.parts
  obtain ⟨p_n1, p_n2, p_n3⟩ := h_n.parts
  obtain ⟨p_m1, p_m2, p_m3⟩ := h_m.parts
  obtain ⟨p_inc1, p_inc2, p_inc3⟩ := h_inc.parts
  obtain ⟨p_dec1, p_dec2, p_dec3⟩ := h_dec.parts
  obtain ⟨p_neg1, p_neg2, p_neg3⟩ := h_neg.parts
  clear hb9 hf9
  have hn_other := Va.new hv9 (lm W) (.int .i64 W)
  replace h_a := h_a.nx (bal (Below.refl _ _) (.cells #[.int .i64 W, .slice (some ad9) (lm W) c9] 24))
  replace h_b := h_b.nx (bal (Below.refl _ _) (.cells #[.int .i64 W, .slice (some ad9) (lm W) c9] 24))
  replace h_n := h_n.nx (bal (Below.refl _ _) (.cells #[.int .i64 W, .slice (some ad9) (lm W) c9] 24))
  replace h_m := h_m.nx (bal (Below.refl _ _) (.cells #[.int .i64 W, .slice (some ad9) (lm W) c9] 24))
  replace h_inc := h_inc.nx (bal (Below.refl _ _) (.cells #[.int .i64 W, .slice (some ad9) (lm W) c9] 24))
  replace h_dec := h_dec.nx (bal (Below.refl _ _) (.cells #[.int .i64 W, .slice (some ad9) (lm W) c9] 24))
  replace h_neg := h_neg.nx (bal (Below.refl _ _) (.cells #[.int .i64 W, .slice (some ad9) (lm W) c9] 24))
  replace hB := bal hB (.cells #[.int .i64 W, .slice (some ad9) (lm W) c9] 24)
  clear hv9
  have h_other := hn_other
  clear hn_other
  go_wp2_with fail
  generalize w9.alloc (.cells #[.int .i64 W, .slice (some ad9) (lm W) c9] 24) = w9m at *
  generalize w9.heap.size = gw9 at *
  refine (O_or h_n.v h_m.v).mono ?_
  rintro e w10 ⟨ad10, c10, rfl, hv10, hf10, hb10⟩
  clear p_a1 p_a2 p_a3 p_b1 p_b2 p_b3 p_n1 p_n2 p_n3 p_m1 p_m2 p_m3 p_inc1 p_inc2 p_inc3 p_dec1 p_dec2 p_dec3 p_neg1 p_neg2 p_neg3
  replace h_a := h_a.nx hb10
  replace h_b := h_b.nx hb10
  replace h_n := h_n.nx hb10
  replace h_m := h_m.nx hb10
  replace h_inc := h_inc.nx hb10
  replace h_dec := h_dec.nx hb10
  replace h_neg := h_neg.nx hb10
  replace h_other := h_other.nx hb10
  replace hB := bnx hB hb10
  obtain ⟨p_a1, p_a2, p_a3⟩ := h_a.parts
  obtain ⟨p_b1, p_b2, p_b3⟩ := h_b.parts
  obtain ⟨p_n1, p_n2, p_n3⟩ := h_n.parts
  obtain ⟨p_m1, p_m2, p_m3⟩ := h_m.parts
  obtain ⟨p_inc1, p_inc2, p_inc3⟩ := h_inc.parts
  obtain ⟨p_dec1, p_dec2, p_dec3⟩ := h_dec.parts
  obtain ⟨p_neg1, p_neg2, p_neg3⟩ := h_neg.parts
  obtain ⟨p_other1, p_other2, p_other3⟩ := h_other.parts
  clear hb10 hf10
  have hn_both := Va.new hv10 (lm W) (.int .i64 W)
  replace h_a := h_a.nx (bal (Below.refl _ _) (.cells #[.int .i64 W, .slice (some ad10) (lm W) c10] 24))
  replace h_b := h_b.nx (bal (Below.refl _ _) (.cells #[.int .i64 W, .slice (some ad10) (lm W) c10] 24))
  replace h_n := h_n.nx (bal (Below.refl _ _) (.cells #[.int .i64 W, .slice (some ad10) (lm W) c10] 24))
  replace h_m := h_m.nx (bal (Below.refl _ _) (.cells #[.int .i64 W, .slice (some ad10) (lm W) c10] 24))
  replace h_inc := h_inc.nx (bal (Below.refl _ _) (.cells #[.int .i64 W, .slice (some ad10) (lm W) c10] 24))
  replace h_dec := h_dec.nx (bal (Below.refl _ _) (.cells #[.int .i64 W, .slice (some ad10) (lm W) c10] 24))
  replace h_neg := h_neg.nx (bal (Below.refl _ _) (.cells #[.int .i64 W, .slice (some ad10) (lm W) c10] 24))
  replace h_other := h_other.nx (bal (Below.refl _ _) (.cells #[.int .i64 W, .slice (some ad10) (lm W) c10] 24))
  replace hB := bal hB (.cells #[.int .i64 W, .slice (some ad10) (lm W) c10] 24)
  clear hv10
  have h_both := hn_both
  clear hn_both
  go_wp2_with fail
  generalize w10.alloc (.cells #[.int .i64 W, .slice (some ad10) (lm W) c10] 24) = w10m at *
  generalize w10.heap.size = gw10 at *
  refine (O_and h_a.v h_b.v).mono ?_
  rintro e w11 ⟨ad11, c11, rfl, hv11, hf11, hb11⟩
  clear p_a1 p_a2 p_a3 p_b1 p_b2 p_b3 p_n1 p_n2 p_n3 p_m1 p_m2 p_m3 p_inc1 p_inc2 p_inc3 p_dec1 p_dec2 p_dec3 p_neg1 p_neg2 p_neg3 p_other1 p_other2 p_other3
  replace h_a := h_a.nx hb11
  replace h_b := h_b.nx hb11
  replace h_n := h_n.nx hb11
  replace h_m := h_m.nx hb11
  replace h_inc := h_inc.nx hb11
  replace h_dec := h_dec.nx hb11
  replace h_neg := h_neg.nx hb11
  replace h_other := h_other.nx hb11
  replace h_both := h_both.nx hb11
  replace hB := bnx hB hb11
  obtain ⟨p_a1, p_a2, p_a3⟩ := h_a.parts
  obtain ⟨p_b1, p_b2, p_b3⟩ := h_b.parts
  obtain ⟨p_n1, p_n2, p_n3⟩ := h_n.parts
  obtain ⟨p_m1, p_m2, p_m3⟩ := h_m.parts
  obtain ⟨p_inc1, p_inc2, p_inc3⟩ := h_inc.parts
  obtain ⟨p_dec1, p_dec2, p_dec3⟩ := h_dec.parts
  obtain ⟨p_neg1, p_neg2, p_neg3⟩ := h_neg.parts
  obtain ⟨p_other1, p_other2, p_other3⟩ := h_other.parts
  obtain ⟨p_both1, p_both2, p_both3⟩ := h_both.parts
  clear hb11 hf11
  go_wp2_with fail
  refine (U_not hv11).mono ?_
  rintro e w12 ⟨ad12, c12, rfl, hv12, hf12, hb12⟩
  clear p_a1 p_a2 p_a3 p_b1 p_b2 p_b3 p_n1 p_n2 p_n3 p_m1 p_m2 p_m3 p_inc1 p_inc2 p_inc3 p_dec1 p_dec2 p_dec3 p_neg1 p_neg2 p_neg3 p_other1 p_other2 p_other3 p_both1 p_both2 p_both3
  replace h_a := h_a.nx hb12
  replace h_b := h_b.nx hb12
  replace h_n := h_n.nx hb12
  replace h_m := h_m.nx hb12
  replace h_inc := h_inc.nx hb12
  replace h_dec := h_dec.nx hb12
  replace h_neg := h_neg.nx hb12
  replace h_other := h_other.nx hb12
  replace h_both := h_both.nx hb12
  replace hB := bnx hB hb12
  obtain ⟨p_a1, p_a2, p_a3⟩ := h_a.parts
  obtain ⟨p_b1, p_b2, p_b3⟩ := h_b.parts
  obtain ⟨p_n1, p_n2, p_n3⟩ := h_n.parts
  obtain ⟨p_m1, p_m2, p_m3⟩ := h_m.parts
  obtain ⟨p_inc1, p_inc2, p_inc3⟩ := h_inc.parts
  obtain ⟨p_dec1, p_dec2, p_dec3⟩ := h_dec.parts
  obtain ⟨p_neg1, p_neg2, p_neg3⟩ := h_neg.parts
  obtain ⟨p_other1, p_other2, p_other3⟩ := h_other.parts
  obtain ⟨p_both1, p_both2, p_both3⟩ := h_both.parts
  clear hb12 hf12
  have hn_turned := Va.new hv12 (lm W) (.int .i64 W)
  replace h_a := h_a.nx (bal (Below.refl _ _) (.cells #[.int .i64 W, .slice (some ad12) (lm W) c12] 24))
  replace h_b := h_b.nx (bal (Below.refl _ _) (.cells #[.int .i64 W, .slice (some ad12) (lm W) c12] 24))
  replace h_n := h_n.nx (bal (Below.refl _ _) (.cells #[.int .i64 W, .slice (some ad12) (lm W) c12] 24))
  replace h_m := h_m.nx (bal (Below.refl _ _) (.cells #[.int .i64 W, .slice (some ad12) (lm W) c12] 24))
  replace h_inc := h_inc.nx (bal (Below.refl _ _) (.cells #[.int .i64 W, .slice (some ad12) (lm W) c12] 24))
  replace h_dec := h_dec.nx (bal (Below.refl _ _) (.cells #[.int .i64 W, .slice (some ad12) (lm W) c12] 24))
  replace h_neg := h_neg.nx (bal (Below.refl _ _) (.cells #[.int .i64 W, .slice (some ad12) (lm W) c12] 24))
  replace h_other := h_other.nx (bal (Below.refl _ _) (.cells #[.int .i64 W, .slice (some ad12) (lm W) c12] 24))
  replace h_both := h_both.nx (bal (Below.refl _ _) (.cells #[.int .i64 W, .slice (some ad12) (lm W) c12] 24))
  replace hB := bal hB (.cells #[.int .i64 W, .slice (some ad12) (lm W) c12] 24)
  clear hv12
  have h_turned := hn_turned
  clear hn_turned
  go_wp2_with fail
  generalize w12.alloc (.cells #[.int .i64 W, .slice (some ad12) (lm W) c12] 24) = w12m at *
  generalize w12.heap.size = gw12 at *
  have hD := (Below.refl (w12m).heap.size w12m).drew
  have h_aD := h_a.nx hD
  have h_bD := h_b.nx hD
  have KD := box_keep h_aD h_bD
  clear p_a1 p_a2 p_a3 p_b1 p_b2 p_b3 p_n1 p_n2 p_n3 p_m1 p_m2 p_m3 p_inc1 p_inc2 p_inc3 p_dec1 p_dec2 p_dec3 p_neg1 p_neg2 p_neg3 p_other1 p_other2 p_other3 p_both1 p_both2 p_both3
  go_cut [23, 24] (fun s23 s24 wx => s23 = .bool x ∧ s24 = .bool y ∧ Below (w12m).heap.size w12m wx)
  case first =>
    go_region_held3 (fun w' => w'.cell? ⟨w.heap.size, 0, none⟩ = some (.int .i64 W) ∧ w'.cell? ⟨w.heap.size, 1, none⟩ = some (.slice (some ad) (lm W) c) ∧ w'.cell? ⟨w.heap.size + 1, 0, none⟩ = some (.int .i64 W) ∧ w'.cell? ⟨w.heap.size + 1, 1, none⟩ = some (.slice (some ad') (lm W) c'))
      (first | exact KD | exact K1 | exact K2)
      (first | (go_at_call 17; ((with_reducible refine (Bit_b h_aD.v HX.out).mono ?_); rintro e u1 ⟨rfl, hu1⟩; have h_a1 := h_aD.nx hu1; have h_b1 := h_bD.nx hu1; have K1 := box_keep h_a1 h_b1)) | (go_at_call 17; ((with_reducible refine (Bit_b h_b1.v HY.out).mono ?_); rintro e u2 ⟨rfl, hu2⟩; have hU := bnx (bnx hD hu1) hu2; have h_a2 := h_a1.nx hu2; have h_b2 := h_b1.nx hu2; have K2 := box_keep h_a2 h_b2)))
    all_goals (go_wp2_with fail; go_meet; exact ⟨rfl, rfl, hU⟩)
  case rest =>
    obtain ⟨rfl, rfl, hU⟩ := hcut
    clear h_aD h_bD hD KD
    replace h_a := h_a.nx hU
    replace h_b := h_b.nx hU
    replace h_n := h_n.nx hU
    replace h_m := h_m.nx hU
    replace h_inc := h_inc.nx hU
    replace h_dec := h_dec.nx hU
    replace h_neg := h_neg.nx hU
    replace h_other := h_other.nx hU
    replace h_both := h_both.nx hU
    replace h_turned := h_turned.nx hU
    replace hB := bnx hB hU
    clear hU
    obtain ⟨p_a1, p_a2, p_a3⟩ := h_a.parts
    obtain ⟨p_b1, p_b2, p_b3⟩ := h_b.parts
    obtain ⟨p_n1, p_n2, p_n3⟩ := h_n.parts
    obtain ⟨p_m1, p_m2, p_m3⟩ := h_m.parts
    obtain ⟨p_inc1, p_inc2, p_inc3⟩ := h_inc.parts
    obtain ⟨p_dec1, p_dec2, p_dec3⟩ := h_dec.parts
    obtain ⟨p_neg1, p_neg2, p_neg3⟩ := h_neg.parts
    obtain ⟨p_other1, p_other2, p_other3⟩ := h_other.parts
    obtain ⟨p_both1, p_both2, p_both3⟩ := h_both.parts
    obtain ⟨p_turned1, p_turned2, p_turned3⟩ := h_turned.parts
    cases x <;> cases y
    all_goals
      go_wp2_with fail
      refine (Bit_b h_n.v HN.out).mono ?_
      rintro e w13 ⟨rfl, hb13⟩
      clear p_a1 p_a2 p_a3 p_b1 p_b2 p_b3 p_n1 p_n2 p_n3 p_m1 p_m2 p_m3 p_inc1 p_inc2 p_inc3 p_dec1 p_dec2 p_dec3 p_neg1 p_neg2 p_neg3 p_other1 p_other2 p_other3 p_both1 p_both2 p_both3 p_turned1 p_turned2 p_turned3
      replace h_a := h_a.nx hb13
      replace h_b := h_b.nx hb13
      replace h_n := h_n.nx hb13
      replace h_m := h_m.nx hb13
      replace h_inc := h_inc.nx hb13
      replace h_dec := h_dec.nx hb13
      replace h_neg := h_neg.nx hb13
      replace h_other := h_other.nx hb13
      replace h_both := h_both.nx hb13
      replace h_turned := h_turned.nx hb13
      replace hB := bnx hB hb13
      obtain ⟨p_a1, p_a2, p_a3⟩ := h_a.parts
      obtain ⟨p_b1, p_b2, p_b3⟩ := h_b.parts
      obtain ⟨p_n1, p_n2, p_n3⟩ := h_n.parts
      obtain ⟨p_m1, p_m2, p_m3⟩ := h_m.parts
      obtain ⟨p_inc1, p_inc2, p_inc3⟩ := h_inc.parts
      obtain ⟨p_dec1, p_dec2, p_dec3⟩ := h_dec.parts
      obtain ⟨p_neg1, p_neg2, p_neg3⟩ := h_neg.parts
      obtain ⟨p_other1, p_other2, p_other3⟩ := h_other.parts
      obtain ⟨p_both1, p_both2, p_both3⟩ := h_both.parts
      obtain ⟨p_turned1, p_turned2, p_turned3⟩ := h_turned.parts
      clear hb13
      go_wp2_with fail
      refine (O_and h_a.v h_b.v).mono ?_
      rintro e w14 ⟨ad14, c14, rfl, hv14, hf14, hb14⟩
      clear p_a1 p_a2 p_a3 p_b1 p_b2 p_b3 p_n1 p_n2 p_n3 p_m1 p_m2 p_m3 p_inc1 p_inc2 p_inc3 p_dec1 p_dec2 p_dec3 p_neg1 p_neg2 p_neg3 p_other1 p_other2 p_other3 p_both1 p_both2 p_both3 p_turned1 p_turned2 p_turned3
      replace h_a := h_a.nx hb14
      replace h_b := h_b.nx hb14
      replace h_n := h_n.nx hb14
      replace h_m := h_m.nx hb14
      replace h_inc := h_inc.nx hb14
      replace h_dec := h_dec.nx hb14
      replace h_neg := h_neg.nx hb14
      replace h_other := h_other.nx hb14
      replace h_both := h_both.nx hb14
      replace h_turned := h_turned.nx hb14
      replace hB := bnx hB hb14
      obtain ⟨p_a1, p_a2, p_a3⟩ := h_a.parts
      obtain ⟨p_b1, p_b2, p_b3⟩ := h_b.parts
      obtain ⟨p_n1, p_n2, p_n3⟩ := h_n.parts
      obtain ⟨p_m1, p_m2, p_m3⟩ := h_m.parts
      obtain ⟨p_inc1, p_inc2, p_inc3⟩ := h_inc.parts
      obtain ⟨p_dec1, p_dec2, p_dec3⟩ := h_dec.parts
      obtain ⟨p_neg1, p_neg2, p_neg3⟩ := h_neg.parts
      obtain ⟨p_other1, p_other2, p_other3⟩ := h_other.parts
      obtain ⟨p_both1, p_both2, p_both3⟩ := h_both.parts
      obtain ⟨p_turned1, p_turned2, p_turned3⟩ := h_turned.parts
      clear hb14 hf14
      go_wp2_with fail
      refine (Bit_b hv14 HA.out).mono ?_
      rintro e w15 ⟨rfl, hb15⟩
      clear p_a1 p_a2 p_a3 p_b1 p_b2 p_b3 p_n1 p_n2 p_n3 p_m1 p_m2 p_m3 p_inc1 p_inc2 p_inc3 p_dec1 p_dec2 p_dec3 p_neg1 p_neg2 p_neg3 p_other1 p_other2 p_other3 p_both1 p_both2 p_both3 p_turned1 p_turned2 p_turned3
      replace h_a := h_a.nx hb15
      replace h_b := h_b.nx hb15
      replace h_n := h_n.nx hb15
      replace h_m := h_m.nx hb15
      replace h_inc := h_inc.nx hb15
      replace h_dec := h_dec.nx hb15
      replace h_neg := h_neg.nx hb15
      replace h_other := h_other.nx hb15
      replace h_both := h_both.nx hb15
      replace h_turned := h_turned.nx hb15
      replace hB := bnx hB hb15
      obtain ⟨p_a1, p_a2, p_a3⟩ := h_a.parts
      obtain ⟨p_b1, p_b2, p_b3⟩ := h_b.parts
      obtain ⟨p_n1, p_n2, p_n3⟩ := h_n.parts
      obtain ⟨p_m1, p_m2, p_m3⟩ := h_m.parts
      obtain ⟨p_inc1, p_inc2, p_inc3⟩ := h_inc.parts
      obtain ⟨p_dec1, p_dec2, p_dec3⟩ := h_dec.parts
      obtain ⟨p_neg1, p_neg2, p_neg3⟩ := h_neg.parts
      obtain ⟨p_other1, p_other2, p_other3⟩ := h_other.parts
      obtain ⟨p_both1, p_both2, p_both3⟩ := h_both.parts
      obtain ⟨p_turned1, p_turned2, p_turned3⟩ := h_turned.parts
      clear hb15
      go_wp2_with fail
      refine (O_or h_a.v h_b.v).mono ?_
      rintro e w16 ⟨ad16, c16, rfl, hv16, hf16, hb16⟩
      clear p_a1 p_a2 p_a3 p_b1 p_b2 p_b3 p_n1 p_n2 p_n3 p_m1 p_m2 p_m3 p_inc1 p_inc2 p_inc3 p_dec1 p_dec2 p_dec3 p_neg1 p_neg2 p_neg3 p_other1 p_other2 p_other3 p_both1 p_both2 p_both3 p_turned1 p_turned2 p_turned3
      replace h_a := h_a.nx hb16
      replace h_b := h_b.nx hb16
      replace h_n := h_n.nx hb16
      replace h_m := h_m.nx hb16
      replace h_inc := h_inc.nx hb16
      replace h_dec := h_dec.nx hb16
      replace h_neg := h_neg.nx hb16
      replace h_other := h_other.nx hb16
      replace h_both := h_both.nx hb16
      replace h_turned := h_turned.nx hb16
      replace hB := bnx hB hb16
      obtain ⟨p_a1, p_a2, p_a3⟩ := h_a.parts
      obtain ⟨p_b1, p_b2, p_b3⟩ := h_b.parts
      obtain ⟨p_n1, p_n2, p_n3⟩ := h_n.parts
      obtain ⟨p_m1, p_m2, p_m3⟩ := h_m.parts
      obtain ⟨p_inc1, p_inc2, p_inc3⟩ := h_inc.parts
      obtain ⟨p_dec1, p_dec2, p_dec3⟩ := h_dec.parts
      obtain ⟨p_neg1, p_neg2, p_neg3⟩ := h_neg.parts
      obtain ⟨p_other1, p_other2, p_other3⟩ := h_other.parts
      obtain ⟨p_both1, p_both2, p_both3⟩ := h_both.parts
      obtain ⟨p_turned1, p_turned2, p_turned3⟩ := h_turned.parts
      clear hb16 hf16
      go_wp2_with fail
      refine (Bit_b hv16 HO.out).mono ?_
      rintro e w17 ⟨rfl, hb17⟩
      clear p_a1 p_a2 p_a3 p_b1 p_b2 p_b3 p_n1 p_n2 p_n3 p_m1 p_m2 p_m3 p_inc1 p_inc2 p_inc3 p_dec1 p_dec2 p_dec3 p_neg1 p_neg2 p_neg3 p_other1 p_other2 p_other3 p_both1 p_both2 p_both3 p_turned1 p_turned2 p_turned3
      replace h_a := h_a.nx hb17
      replace h_b := h_b.nx hb17
      replace h_n := h_n.nx hb17
      replace h_m := h_m.nx hb17
      replace h_inc := h_inc.nx hb17
      replace h_dec := h_dec.nx hb17
      replace h_neg := h_neg.nx hb17
      replace h_other := h_other.nx hb17
      replace h_both := h_both.nx hb17
      replace h_turned := h_turned.nx hb17
      replace hB := bnx hB hb17
      obtain ⟨p_a1, p_a2, p_a3⟩ := h_a.parts
      obtain ⟨p_b1, p_b2, p_b3⟩ := h_b.parts
      obtain ⟨p_n1, p_n2, p_n3⟩ := h_n.parts
      obtain ⟨p_m1, p_m2, p_m3⟩ := h_m.parts
      obtain ⟨p_inc1, p_inc2, p_inc3⟩ := h_inc.parts
      obtain ⟨p_dec1, p_dec2, p_dec3⟩ := h_dec.parts
      obtain ⟨p_neg1, p_neg2, p_neg3⟩ := h_neg.parts
      obtain ⟨p_other1, p_other2, p_other3⟩ := h_other.parts
      obtain ⟨p_both1, p_both2, p_both3⟩ := h_both.parts
      obtain ⟨p_turned1, p_turned2, p_turned3⟩ := h_turned.parts
      clear hb17
      go_wp2_with fail
      refine (O_xor h_a.v h_b.v).mono ?_
      rintro e w18 ⟨ad18, c18, rfl, hv18, hf18, hb18⟩
      clear p_a1 p_a2 p_a3 p_b1 p_b2 p_b3 p_n1 p_n2 p_n3 p_m1 p_m2 p_m3 p_inc1 p_inc2 p_inc3 p_dec1 p_dec2 p_dec3 p_neg1 p_neg2 p_neg3 p_other1 p_other2 p_other3 p_both1 p_both2 p_both3 p_turned1 p_turned2 p_turned3
      replace h_a := h_a.nx hb18
      replace h_b := h_b.nx hb18
      replace h_n := h_n.nx hb18
      replace h_m := h_m.nx hb18
      replace h_inc := h_inc.nx hb18
      replace h_dec := h_dec.nx hb18
      replace h_neg := h_neg.nx hb18
      replace h_other := h_other.nx hb18
      replace h_both := h_both.nx hb18
      replace h_turned := h_turned.nx hb18
      replace hB := bnx hB hb18
      obtain ⟨p_a1, p_a2, p_a3⟩ := h_a.parts
      obtain ⟨p_b1, p_b2, p_b3⟩ := h_b.parts
      obtain ⟨p_n1, p_n2, p_n3⟩ := h_n.parts
      obtain ⟨p_m1, p_m2, p_m3⟩ := h_m.parts
      obtain ⟨p_inc1, p_inc2, p_inc3⟩ := h_inc.parts
      obtain ⟨p_dec1, p_dec2, p_dec3⟩ := h_dec.parts
      obtain ⟨p_neg1, p_neg2, p_neg3⟩ := h_neg.parts
      obtain ⟨p_other1, p_other2, p_other3⟩ := h_other.parts
      obtain ⟨p_both1, p_both2, p_both3⟩ := h_both.parts
      obtain ⟨p_turned1, p_turned2, p_turned3⟩ := h_turned.parts
      clear hb18 hf18
      go_wp2_with fail
      refine (Bit_b hv18 HXo.out).mono ?_
      rintro e w19 ⟨rfl, hb19⟩
      clear p_a1 p_a2 p_a3 p_b1 p_b2 p_b3 p_n1 p_n2 p_n3 p_m1 p_m2 p_m3 p_inc1 p_inc2 p_inc3 p_dec1 p_dec2 p_dec3 p_neg1 p_neg2 p_neg3 p_other1 p_other2 p_other3 p_both1 p_both2 p_both3 p_turned1 p_turned2 p_turned3
      replace h_a := h_a.nx hb19
      replace h_b := h_b.nx hb19
      replace h_n := h_n.nx hb19
      replace h_m := h_m.nx hb19
      replace h_inc := h_inc.nx hb19
      replace h_dec := h_dec.nx hb19
      replace h_neg := h_neg.nx hb19
      replace h_other := h_other.nx hb19
      replace h_both := h_both.nx hb19
      replace h_turned := h_turned.nx hb19
      replace hB := bnx hB hb19
      obtain ⟨p_a1, p_a2, p_a3⟩ := h_a.parts
      obtain ⟨p_b1, p_b2, p_b3⟩ := h_b.parts
      obtain ⟨p_n1, p_n2, p_n3⟩ := h_n.parts
      obtain ⟨p_m1, p_m2, p_m3⟩ := h_m.parts
      obtain ⟨p_inc1, p_inc2, p_inc3⟩ := h_inc.parts
      obtain ⟨p_dec1, p_dec2, p_dec3⟩ := h_dec.parts
      obtain ⟨p_neg1, p_neg2, p_neg3⟩ := h_neg.parts
      obtain ⟨p_other1, p_other2, p_other3⟩ := h_other.parts
      obtain ⟨p_both1, p_both2, p_both3⟩ := h_both.parts
      obtain ⟨p_turned1, p_turned2, p_turned3⟩ := h_turned.parts
      clear hb19
      go_wp2_with fail
      refine (sam_yes h_dec.v h_a.v E1.out).mono ?_
      rintro e w20 ⟨rfl, hb20⟩
      clear p_a1 p_a2 p_a3 p_b1 p_b2 p_b3 p_n1 p_n2 p_n3 p_m1 p_m2 p_m3 p_inc1 p_inc2 p_inc3 p_dec1 p_dec2 p_dec3 p_neg1 p_neg2 p_neg3 p_other1 p_other2 p_other3 p_both1 p_both2 p_both3 p_turned1 p_turned2 p_turned3
      replace h_a := h_a.nx hb20
      replace h_b := h_b.nx hb20
      replace h_n := h_n.nx hb20
      replace h_m := h_m.nx hb20
      replace h_inc := h_inc.nx hb20
      replace h_dec := h_dec.nx hb20
      replace h_neg := h_neg.nx hb20
      replace h_other := h_other.nx hb20
      replace h_both := h_both.nx hb20
      replace h_turned := h_turned.nx hb20
      replace hB := bnx hB hb20
      obtain ⟨p_a1, p_a2, p_a3⟩ := h_a.parts
      obtain ⟨p_b1, p_b2, p_b3⟩ := h_b.parts
      obtain ⟨p_n1, p_n2, p_n3⟩ := h_n.parts
      obtain ⟨p_m1, p_m2, p_m3⟩ := h_m.parts
      obtain ⟨p_inc1, p_inc2, p_inc3⟩ := h_inc.parts
      obtain ⟨p_dec1, p_dec2, p_dec3⟩ := h_dec.parts
      obtain ⟨p_neg1, p_neg2, p_neg3⟩ := h_neg.parts
      obtain ⟨p_other1, p_other2, p_other3⟩ := h_other.parts
      obtain ⟨p_both1, p_both2, p_both3⟩ := h_both.parts
      obtain ⟨p_turned1, p_turned2, p_turned3⟩ := h_turned.parts
      clear hb20
      go_wp2_with fail
      refine (sam_yes h_neg.v h_other.v E2.out).mono ?_
      rintro e w21 ⟨rfl, hb21⟩
      clear p_a1 p_a2 p_a3 p_b1 p_b2 p_b3 p_n1 p_n2 p_n3 p_m1 p_m2 p_m3 p_inc1 p_inc2 p_inc3 p_dec1 p_dec2 p_dec3 p_neg1 p_neg2 p_neg3 p_other1 p_other2 p_other3 p_both1 p_both2 p_both3 p_turned1 p_turned2 p_turned3
      replace h_a := h_a.nx hb21
      replace h_b := h_b.nx hb21
      replace h_n := h_n.nx hb21
      replace h_m := h_m.nx hb21
      replace h_inc := h_inc.nx hb21
      replace h_dec := h_dec.nx hb21
      replace h_neg := h_neg.nx hb21
      replace h_other := h_other.nx hb21
      replace h_both := h_both.nx hb21
      replace h_turned := h_turned.nx hb21
      replace hB := bnx hB hb21
      obtain ⟨p_a1, p_a2, p_a3⟩ := h_a.parts
      obtain ⟨p_b1, p_b2, p_b3⟩ := h_b.parts
      obtain ⟨p_n1, p_n2, p_n3⟩ := h_n.parts
      obtain ⟨p_m1, p_m2, p_m3⟩ := h_m.parts
      obtain ⟨p_inc1, p_inc2, p_inc3⟩ := h_inc.parts
      obtain ⟨p_dec1, p_dec2, p_dec3⟩ := h_dec.parts
      obtain ⟨p_neg1, p_neg2, p_neg3⟩ := h_neg.parts
      obtain ⟨p_other1, p_other2, p_other3⟩ := h_other.parts
      obtain ⟨p_both1, p_both2, p_both3⟩ := h_both.parts
      obtain ⟨p_turned1, p_turned2, p_turned3⟩ := h_turned.parts
      clear hb21
      go_wp2_with fail
      refine (sam_yes h_both.v h_turned.v E3.out).mono ?_
      rintro e w22 ⟨rfl, hb22⟩
      clear p_a1 p_a2 p_a3 p_b1 p_b2 p_b3 p_n1 p_n2 p_n3 p_m1 p_m2 p_m3 p_inc1 p_inc2 p_inc3 p_dec1 p_dec2 p_dec3 p_neg1 p_neg2 p_neg3 p_other1 p_other2 p_other3 p_both1 p_both2 p_both3 p_turned1 p_turned2 p_turned3
      replace h_a := h_a.nx hb22
      replace h_b := h_b.nx hb22
      replace h_n := h_n.nx hb22
      replace h_m := h_m.nx hb22
      replace h_inc := h_inc.nx hb22
      replace h_dec := h_dec.nx hb22
      replace h_neg := h_neg.nx hb22
      replace h_other := h_other.nx hb22
      replace h_both := h_both.nx hb22
      replace h_turned := h_turned.nx hb22
      replace hB := bnx hB hb22
      obtain ⟨p_a1, p_a2, p_a3⟩ := h_a.parts
      obtain ⟨p_b1, p_b2, p_b3⟩ := h_b.parts
      obtain ⟨p_n1, p_n2, p_n3⟩ := h_n.parts
      obtain ⟨p_m1, p_m2, p_m3⟩ := h_m.parts
      obtain ⟨p_inc1, p_inc2, p_inc3⟩ := h_inc.parts
      obtain ⟨p_dec1, p_dec2, p_dec3⟩ := h_dec.parts
      obtain ⟨p_neg1, p_neg2, p_neg3⟩ := h_neg.parts
      obtain ⟨p_other1, p_other2, p_other3⟩ := h_other.parts
      obtain ⟨p_both1, p_both2, p_both3⟩ := h_both.parts
      obtain ⟨p_turned1, p_turned2, p_turned3⟩ := h_turned.parts
      clear hb22
      go_wp2
      go_ret
      exact ⟨rfl, hB⟩
end Go.Proofs.Ytnnoflohekmnbaa
