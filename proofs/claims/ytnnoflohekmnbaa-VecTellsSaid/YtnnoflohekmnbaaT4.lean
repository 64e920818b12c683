/-
  VecTells: its walk.
-/
import Derived.Test.YtnnoflohekmnbaaProg
import Derived.WalkKit
import Derived.WalkSpells
import Derived.WalkLawsBesides
import Derived.LoopN
import Derived.IntWalk
import Derived.Lib.Hide
import Derived.Laws.BitsAllLaws
import Derived.Laws.Externs
import Derived.BigQuiet
import Derived.BigRegion
import Derived.Deep.QuietTactic
import Derived.Deep.RegionWith
import Derived.Deep.RegionHeld3
import Derived.StillTailTactics
import Derived.RegionTactic
import Derived.ChangeAlike
import Derived.Test.YtnnoflohekmnbaaR5
import Derived.Test.YtnnoflohekmnbaaE4
import Derived.Test.YtnnoflohekmnbaaD3
import Derived.Test.YtnnoflohekmnbaaB9
import Derived.Test.YtnnoflohekmnbaaS5
set_option linter.unusedVariables false
namespace Go.Proofs.Ytnnoflohekmnbaa
open Go.RowKit
theorem Right_b {A : Option Addr} {c : Nat} {l : List Nat} {W : Int} {w0 w : World} {b : Bool} (h : R64 w0 w0.heap.size A l) (hB : Below w0.heap.size w0 w) (hl : ∀ x ∈ l, x < 18446744073709551616) (hc : l.length ≤ c) (hc2 : c ≤ maxLen) (hb : rightB W l = b) : Calls Try.prog 15 #[.agg #[.int .i64 W, .slice A l.length c]] w (RetV w (.bool b)) :=
  hb ▸ Right_any A c l W w ((h.below hB).mono hB.size) hl hc hc2
theorem refBit_b {w : World} {ad : Addr} {c W N : Nat} {b : Bool} (h : Vc w w.heap.size ad c W N) {i : Int} (hb : tb N i = b) : Calls Try.prog 18 #[.agg #[.int .i64 W, .slice (some ad) (lm W) c], .int .i64 i] w (RetV w (.bool b)) := hb ▸ refBit_any h i
theorem Text_b {w : World} {ad : Addr} {c W N : Nat} {T : ByteArray} (h : Vc w w.heap.size ad c W N) (hb : txt W N = T) : Calls Try.prog 19 #[.agg #[.int .i64 W, .slice (some ad) (lm W) c]] w (RetV w (.string T)) := hb ▸ Text_any h
theorem refText_b {w : World} {ad : Addr} {c W N : Nat} {T : ByteArray} (h : Vc w w.heap.size ad c W N) (hb : txt W N = T) : Calls Try.prog 20 #[.agg #[.int .i64 W, .slice (some ad) (lm W) c]] w (RetV w (.string T)) := hb ▸ refText_any h
theorem same_both (ada adb : Addr) (ca cb W V N K : Nat) : ∃ b : Bool, ∀ wx, Vc wx wx.heap.size ada ca W N → Vc wx wx.heap.size adb cb V K → Calls Try.prog 21 #[.agg #[.int .i64 W, .slice (some ada) (lm W) ca], .agg #[.int .i64 V, .slice (some adb) (lm V) cb]] wx (RetV wx (.bool b)) ∧ Calls Try.prog 16 #[.agg #[.int .i64 W, .slice (some ada) (lm W) ca], .agg #[.int .i64 V, .slice (some adb) (lm V) cb]] wx (RetV wx (.bool b)) := by
  by_cases h : W = V
  · subst h; exact ⟨N == K, fun wx ha hb => ⟨Same_any ha hb, sam_any ha hb⟩⟩
  · exact ⟨false, fun wx _ _ => ⟨Same_wide _ _ _ _ wx (by omega), sam_wide _ _ _ _ wx (by omega)⟩⟩
theorem keep_two {wr : World} {ga ca ka Wa Na : Nat} {ada : Addr} {xa : Value} (ha : Va wr ga ada ca ka Wa Na xa) {gb cb kb Wb Nb : Nat} {adb : Addr} {xb : Value} (hb : Va wr gb adb cb kb Wb Nb xb) : wr.cell? ⟨ga, 0, none⟩ = some xa ∧ wr.cell? ⟨ga, 1, none⟩ = some (.slice (some ada) ka ca) ∧ wr.cell? ⟨gb, 0, none⟩ = some xb ∧ wr.cell? ⟨gb, 1, none⟩ = some (.slice (some adb) kb cb) :=
  ⟨ha.parts.1, ha.parts.2.1, hb.parts.1, hb.parts.2.1⟩
theorem tells_bx (Aa Ab : Option Addr) (ca cb : Nat) (la lb : List Nat) (Wa Wb i : Int) (S : ByteArray) (w : World) :
    Bx (((w.alloc (.cells #[.int .i64 Wa, .slice Aa la.length ca, .int .i64 Wb, .slice Ab lb.length cb, .int .i64 i, .string S] 26)).alloc (.cells #[.int .i64 Wa, .slice Aa la.length ca] 24)).alloc (.cells #[.int .i64 Wb, .slice Ab lb.length cb] 24)) (w.heap.size + 1) (.int .i64 Wa) (.slice Aa la.length ca) ∧ Bx (((w.alloc (.cells #[.int .i64 Wa, .slice Aa la.length ca, .int .i64 Wb, .slice Ab lb.length cb, .int .i64 i, .string S] 26)).alloc (.cells #[.int .i64 Wa, .slice Aa la.length ca] 24)).alloc (.cells #[.int .i64 Wb, .slice Ab lb.length cb] 24)) (w.heap.size + 2) (.int .i64 Wb) (.slice Ab lb.length cb) ∧ Below w.heap.size w (((w.alloc (.cells #[.int .i64 Wa, .slice Aa la.length ca, .int .i64 Wb, .slice Ab lb.length cb, .int .i64 i, .string S] 26)).alloc (.cells #[.int .i64 Wa, .slice Aa la.length ca] 24)).alloc (.cells #[.int .i64 Wb, .slice Ab lb.length cb] 24)) := by
  refine ⟨⟨?_⟩, ⟨?_⟩, bal (bal (bal (Below.refl w.heap.size w) _) _) _⟩ <;> (refine ⟨?_, ?_, ?_, ?_⟩ <;> go_simp)
set_option maxRecDepth 100000 in
set_option maxHeartbeats 4000000 in
theorem tells_o1 (Aa Ab : Option Addr) (ca cb : Nat) (la lb : List Nat) (Wa Wb i : Int) (S : ByteArray) (w : World) (sa : decide (la.length ≤ 4) = false) :
    Calls Try.prog 3 #[.agg #[.int .i64 Wa, .slice Aa la.length ca, .int .i64 Wb, .slice Ab lb.length cb, .int .i64 i, .string S]] w (RetV w (.bool true)) := by
  have hB0 := Lib.hid (tells_bx Aa Ab ca cb la lb Wa Wb i S w)
  have Sa := Lib.hid sa
  clear sa
  go_enter Try.func3, Try.ntmps3
  go_wp2_with fail
  obtain ⟨h_a, h_b, hB⟩ := hB0.out
  clear hB0
  generalize (((w.alloc (.cells #[.int .i64 Wa, .slice Aa la.length ca, .int .i64 Wb, .slice Ab lb.length cb, .int .i64 i, .string S] 26)).alloc (.cells #[.int .i64 Wa, .slice Aa la.length ca] 24)).alloc (.cells #[.int .i64 Wb, .slice Ab lb.length cb] 24)) = w0 at *
  go_wp2_with fail
  refine (shown_any _).mono ?_
  rintro e w1 ⟨rfl, hb1⟩
  replace h_a := h_a.nx hb1
  replace h_b := h_b.nx hb1
  replace hB := bnx hB hb1
  obtain ⟨p_a1, p_a2, p_a3⟩ := h_a.parts
  obtain ⟨p_b1, p_b2, p_b3⟩ := h_b.parts
  clear hb1
  go_wp2_with fail
  refine (refSmall_any Aa la.length ca Wa _ Sa.out).mono ?_
  rintro e w2 ⟨rfl, hb2⟩
  clear p_a1 p_a2 p_a3 p_b1 p_b2 p_b3
  replace h_a := h_a.nx hb2
  replace h_b := h_b.nx hb2
  replace hB := bnx hB hb2
  obtain ⟨p_a1, p_a2, p_a3⟩ := h_a.parts
  obtain ⟨p_b1, p_b2, p_b3⟩ := h_b.parts
  clear hb2
  go_wp2
  go_ret
  exact ⟨rfl, hB⟩
set_option maxRecDepth 100000 in
set_option maxHeartbeats 4000000 in
theorem tells_o2 (Aa Ab : Option Addr) (ca cb : Nat) (la lb : List Nat) (Wa Wb i : Int) (S : ByteArray) (w : World) (sa : decide (la.length ≤ 4) = true) (sb : decide (lb.length ≤ 4) = false) :
    Calls Try.prog 3 #[.agg #[.int .i64 Wa, .slice Aa la.length ca, .int .i64 Wb, .slice Ab lb.length cb, .int .i64 i, .string S]] w (RetV w (.bool true)) := by
  have hB0 := Lib.hid (tells_bx Aa Ab ca cb la lb Wa Wb i S w)
  have Sa := Lib.hid sa
  have Sb := Lib.hid sb
  clear sa sb
  go_enter Try.func3, Try.ntmps3
  go_wp2_with fail
  obtain ⟨h_a, h_b, hB⟩ := hB0.out
  clear hB0
  generalize (((w.alloc (.cells #[.int .i64 Wa, .slice Aa la.length ca, .int .i64 Wb, .slice Ab lb.length cb, .int .i64 i, .string S] 26)).alloc (.cells #[.int .i64 Wa, .slice Aa la.length ca] 24)).alloc (.cells #[.int .i64 Wb, .slice Ab lb.length cb] 24)) = w0 at *
  go_wp2_with fail
  refine (shown_any _).mono ?_
  rintro e w1 ⟨rfl, hb1⟩
  replace h_a := h_a.nx hb1
  replace h_b := h_b.nx hb1
  replace hB := bnx hB hb1
  obtain ⟨p_a1, p_a2, p_a3⟩ := h_a.parts
  obtain ⟨p_b1, p_b2, p_b3⟩ := h_b.parts
  clear hb1
  go_wp2_with fail
  refine (refSmall_any Aa la.length ca Wa _ Sa.out).mono ?_
  rintro e w2 ⟨rfl, hb2⟩
  clear p_a1 p_a2 p_a3 p_b1 p_b2 p_b3
  replace h_a := h_a.nx hb2
  replace h_b := h_b.nx hb2
  replace hB := bnx hB hb2
  obtain ⟨p_a1, p_a2, p_a3⟩ := h_a.parts
  obtain ⟨p_b1, p_b2, p_b3⟩ := h_b.parts
  clear hb2
  go_wp2_with fail
  refine (refSmall_any Ab lb.length cb Wb _ Sb.out).mono ?_
  rintro e w3 ⟨rfl, hb3⟩
  clear p_a1 p_a2 p_a3 p_b1 p_b2 p_b3
  replace h_a := h_a.nx hb3
  replace h_b := h_b.nx hb3
  replace hB := bnx hB hb3
  obtain ⟨p_a1, p_a2, p_a3⟩ := h_a.parts
  obtain ⟨p_b1, p_b2, p_b3⟩ := h_b.parts
  clear hb3
  go_wp2
  go_ret
  exact ⟨rfl, hB⟩
set_option maxRecDepth 100000 in
set_option maxHeartbeats 4000000 in
theorem tells_o3 (Aa Ab : Option Addr) (ca cb : Nat) (la lb : List Nat) (Wa Wb i : Int) (S : ByteArray) (w : World) (sa : decide (la.length ≤ 4) = true) (sb : decide (lb.length ≤ 4) = true) (d1 : decide ((300 : Int) < S.size) = true) :
    Calls Try.prog 3 #[.agg #[.int .i64 Wa, .slice Aa la.length ca, .int .i64 Wb, .slice Ab lb.length cb, .int .i64 i, .string S]] w (RetV w (.bool true)) := by
  have hB0 := Lib.hid (tells_bx Aa Ab ca cb la lb Wa Wb i S w)
  have Sa := Lib.hid sa
  have Sb := Lib.hid sb
  clear sa sb
  go_enter Try.func3, Try.ntmps3
  go_wp2_with fail
  obtain ⟨h_a, h_b, hB⟩ := hB0.out
  clear hB0
  generalize (((w.alloc (.cells #[.int .i64 Wa, .slice Aa la.length ca, .int .i64 Wb, .slice Ab lb.length cb, .int .i64 i, .string S] 26)).alloc (.cells #[.int .i64 Wa, .slice Aa la.length ca] 24)).alloc (.cells #[.int .i64 Wb, .slice Ab lb.length cb] 24)) = w0 at *
  go_wp2_with fail
  refine (shown_any _).mono ?_
  rintro e w1 ⟨rfl, hb1⟩
  replace h_a := h_a.nx hb1
  replace h_b := h_b.nx hb1
  replace hB := bnx hB hb1
  obtain ⟨p_a1, p_a2, p_a3⟩ := h_a.parts
  obtain ⟨p_b1, p_b2, p_b3⟩ := h_b.parts
  clear hb1
  go_wp2_with fail
  refine (refSmall_any Aa la.length ca Wa _ Sa.out).mono ?_
  rintro e w2 ⟨rfl, hb2⟩
  clear p_a1 p_a2 p_a3 p_b1 p_b2 p_b3
  replace h_a := h_a.nx hb2
  replace h_b := h_b.nx hb2
  replace hB := bnx hB hb2
  obtain ⟨p_a1, p_a2, p_a3⟩ := h_a.parts
  obtain ⟨p_b1, p_b2, p_b3⟩ := h_b.parts
  clear hb2
  go_wp2_with fail
  refine (refSmall_any Ab lb.length cb Wb _ Sb.out).mono ?_
  rintro e w3 ⟨rfl, hb3⟩
  clear p_a1 p_a2 p_a3 p_b1 p_b2 p_b3
  replace h_a := h_a.nx hb3
  replace h_b := h_b.nx hb3
  replace hB := bnx hB hb3
  obtain ⟨p_a1, p_a2, p_a3⟩ := h_a.parts
  obtain ⟨p_b1, p_b2, p_b3⟩ := h_b.parts
  clear hb3
  go_wp2
  go_ret
  exact ⟨rfl, hB⟩
set_option maxRecDepth 100000 in
set_option maxHeartbeats 4000000 in
theorem tells_o4 (Aa Ab : Option Addr) (ca cb : Nat) (la lb : List Nat) (Wa Wb i : Int) (S : ByteArray) (w : World) (sa : decide (la.length ≤ 4) = true) (sb : decide (lb.length ≤ 4) = true) (d1 : decide ((300 : Int) < S.size) = false) (R : Option (Nat × Nat)) (x : Int) (hm : (∀ w, Calls Try.prog 12 #[.string S] w (RetR w R x)) ∧ ∀ w, Calls Try.prog 13 #[.string S] w (RetR w R x)) (ha : R64 w w.heap.size Aa la) (hla : ∀ x ∈ la, x < 18446744073709551616) (hca : la.length ≤ ca) (hca2 : ca ≤ maxLen) (hra : rightB Wa la = false) :
    Calls Try.prog 3 #[.agg #[.int .i64 Wa, .slice Aa la.length ca, .int .i64 Wb, .slice Ab lb.length cb, .int .i64 i, .string S]] w (RetV w (.bool true)) := by
  have hB0 := Lib.hid (tells_bx Aa Ab ca cb la lb Wa Wb i S w)
  have Sa := Lib.hid sa
  have Sb := Lib.hid sb
  have HM := Lib.hid hm
  have Ha := Lib.hid ha
  have Hl := Lib.hid hla
  have Hc := Lib.hid hca
  have Hd := Lib.hid hca2
  have Ra := Lib.hid hra
  have q1 : (x != x) = false := by simp
  clear sa sb hm ha hla hca hca2 hra
  go_enter Try.func3, Try.ntmps3
  go_wp2_with fail
  obtain ⟨h_a, h_b, hB⟩ := hB0.out
  clear hB0
  generalize (((w.alloc (.cells #[.int .i64 Wa, .slice Aa la.length ca, .int .i64 Wb, .slice Ab lb.length cb, .int .i64 i, .string S] 26)).alloc (.cells #[.int .i64 Wa, .slice Aa la.length ca] 24)).alloc (.cells #[.int .i64 Wb, .slice Ab lb.length cb] 24)) = w0 at *
  go_wp2_with fail
  refine (shown_any _).mono ?_
  rintro e w1 ⟨rfl, hb1⟩
  replace h_a := h_a.nx hb1
  replace h_b := h_b.nx hb1
  replace hB := bnx hB hb1
  obtain ⟨p_a1, p_a2, p_a3⟩ := h_a.parts
  obtain ⟨p_b1, p_b2, p_b3⟩ := h_b.parts
  clear hb1
  go_wp2_with fail
  refine (refSmall_any Aa la.length ca Wa _ Sa.out).mono ?_
  rintro e w2 ⟨rfl, hb2⟩
  clear p_a1 p_a2 p_a3 p_b1 p_b2 p_b3
  replace h_a := h_a.nx hb2
  replace h_b := h_b.nx hb2
  replace hB := bnx hB hb2
  obtain ⟨p_a1, p_a2, p_a3⟩ := h_a.parts
  obtain ⟨p_b1, p_b2, p_b3⟩ := h_b.parts
  clear hb2
  go_wp2_with fail
  refine (refSmall_any Ab lb.length cb Wb _ Sb.out).mono ?_
  rintro e w3 ⟨rfl, hb3⟩
  clear p_a1 p_a2 p_a3 p_b1 p_b2 p_b3
  replace h_a := h_a.nx hb3
  replace h_b := h_b.nx hb3
  replace hB := bnx hB hb3
  obtain ⟨p_a1, p_a2, p_a3⟩ := h_a.parts
  obtain ⟨p_b1, p_b2, p_b3⟩ := h_b.parts
  clear hb3
  go_wp2_with fail
  refine (HM.out.1 _).mono ?_
  rintro e w4 ⟨V4, A4, k4, c4, rfl, rs4, hb4⟩
  clear p_a1 p_a2 p_a3 p_b1 p_b2 p_b3
  replace h_a := h_a.nx hb4
  replace h_b := h_b.nx hb4
  replace hB := bnx hB hb4
  obtain ⟨p_a1, p_a2, p_a3⟩ := h_a.parts
  obtain ⟨p_b1, p_b2, p_b3⟩ := h_b.parts
  clear hb4
  have h_s := Vx.new rs4
  replace h_a := h_a.nx (bal (Below.refl _ _) (.cells #[.int .i64 V4, .slice A4 k4 c4] 24))
  replace h_b := h_b.nx (bal (Below.refl _ _) (.cells #[.int .i64 V4, .slice A4 k4 c4] 24))
  replace hB := bal hB (.cells #[.int .i64 V4, .slice A4 k4 c4] 24)
  clear rs4
  go_wp2_with fail
  generalize w4.alloc (.cells #[.int .i64 V4, .slice A4 k4 c4] 24) = w4m at *
  generalize w4.heap.size = gw4 at *
  refine (HM.out.2 _).mono ?_
  rintro e w5 ⟨V5, A5, k5, c5, rfl, rs5, hb5⟩
  clear p_a1 p_a2 p_a3 p_b1 p_b2 p_b3
  replace h_a := h_a.nx hb5
  replace h_b := h_b.nx hb5
  replace h_s := h_s.nx hb5
  replace hB := bnx hB hb5
  obtain ⟨p_a1, p_a2, p_a3⟩ := h_a.parts
  obtain ⟨p_b1, p_b2, p_b3⟩ := h_b.parts
  obtain ⟨p_s1, p_s2, p_s3⟩ := h_s.parts
  clear hb5
  have h_t := Vx.new rs5
  replace h_a := h_a.nx (bal (Below.refl _ _) (.cells #[.int .i64 V5, .slice A5 k5 c5] 24))
  replace h_b := h_b.nx (bal (Below.refl _ _) (.cells #[.int .i64 V5, .slice A5 k5 c5] 24))
  replace h_s := h_s.nx (bal (Below.refl _ _) (.cells #[.int .i64 V5, .slice A5 k5 c5] 24))
  replace hB := bal hB (.cells #[.int .i64 V5, .slice A5 k5 c5] 24)
  clear rs5
  go_wp2_with fail
  generalize w5.alloc (.cells #[.int .i64 V5, .slice A5 k5 c5] 24) = w5m at *
  generalize w5.heap.size = gw5 at *
  refine (refRight_b Ha.out hB Ra.out).mono ?_
  rintro e w6 ⟨rfl, hb6⟩
  clear p_a1 p_a2 p_a3 p_b1 p_b2 p_b3 p_s1 p_s2 p_s3
  replace h_a := h_a.nx hb6
  replace h_b := h_b.nx hb6
  replace h_s := h_s.nx hb6
  replace h_t := h_t.nx hb6
  replace hB := bnx hB hb6
  obtain ⟨p_a1, p_a2, p_a3⟩ := h_a.parts
  obtain ⟨p_b1, p_b2, p_b3⟩ := h_b.parts
  obtain ⟨p_s1, p_s2, p_s3⟩ := h_s.parts
  obtain ⟨p_t1, p_t2, p_t3⟩ := h_t.parts
  clear hb6
  go_wp2_with fail
  refine (Right_b Ha.out hB Hl.out Hc.out Hd.out Ra.out).mono ?_
  rintro e w7 ⟨rfl, hb7⟩
  clear p_a1 p_a2 p_a3 p_b1 p_b2 p_b3 p_s1 p_s2 p_s3 p_t1 p_t2 p_t3
  replace h_a := h_a.nx hb7
  replace h_b := h_b.nx hb7
  replace h_s := h_s.nx hb7
  replace h_t := h_t.nx hb7
  replace hB := bnx hB hb7
  obtain ⟨p_a1, p_a2, p_a3⟩ := h_a.parts
  obtain ⟨p_b1, p_b2, p_b3⟩ := h_b.parts
  obtain ⟨p_s1, p_s2, p_s3⟩ := h_s.parts
  obtain ⟨p_t1, p_t2, p_t3⟩ := h_t.parts
  clear hb7
  go_wp2_with fail
  refine (same_rs h_s.v h_t.v).mono ?_
  rintro e w8 ⟨rfl, hb8⟩
  clear p_a1 p_a2 p_a3 p_b1 p_b2 p_b3 p_s1 p_s2 p_s3 p_t1 p_t2 p_t3
  replace h_a := h_a.nx hb8
  replace h_b := h_b.nx hb8
  replace h_s := h_s.nx hb8
  replace h_t := h_t.nx hb8
  replace hB := bnx hB hb8
  obtain ⟨p_a1, p_a2, p_a3⟩ := h_a.parts
  obtain ⟨p_b1, p_b2, p_b3⟩ := h_b.parts
  obtain ⟨p_s1, p_s2, p_s3⟩ := h_s.parts
  obtain ⟨p_t1, p_t2, p_t3⟩ := h_t.parts
  clear hb8
  go_wp2
  go_ret
  exact ⟨rfl, hB⟩
set_option maxRecDepth 100000 in
set_option maxHeartbeats 4000000 in
theorem tells_o5 (Aa Ab : Option Addr) (ca cb : Nat) (la lb : List Nat) (Wa Wb i : Int) (S : ByteArray) (w : World) (sa : decide (la.length ≤ 4) = true) (sb : decide (lb.length ≤ 4) = true) (d1 : decide ((300 : Int) < S.size) = false) (R : Option (Nat × Nat)) (x : Int) (hm : (∀ w, Calls Try.prog 12 #[.string S] w (RetR w R x)) ∧ ∀ w, Calls Try.prog 13 #[.string S] w (RetR w R x)) (ha : R64 w w.heap.size Aa la) (hla : ∀ x ∈ la, x < 18446744073709551616) (hca : la.length ≤ ca) (hca2 : ca ≤ maxLen) (hra : rightB Wa la = true) (hb : R64 w w.heap.size Ab lb) (hrb : rightB Wb lb = false) :
    Calls Try.prog 3 #[.agg #[.int .i64 Wa, .slice Aa la.length ca, .int .i64 Wb, .slice Ab lb.length cb, .int .i64 i, .string S]] w (RetV w (.bool true)) := by
  have hB0 := Lib.hid (tells_bx Aa Ab ca cb la lb Wa Wb i S w)
  have Sa := Lib.hid sa
  have Sb := Lib.hid sb
  have HM := Lib.hid hm
  have Ha := Lib.hid ha
  have Hl := Lib.hid hla
  have Hc := Lib.hid hca
  have Hd := Lib.hid hca2
  have Ra := Lib.hid hra
  have q1 : (x != x) = false := by simp
  have Hb := Lib.hid hb
  have Rb := Lib.hid hrb
  clear sa sb hm ha hla hca hca2 hra hb hrb
  go_enter Try.func3, Try.ntmps3
  go_wp2_with fail
  obtain ⟨h_a, h_b, hB⟩ := hB0.out
  clear hB0
  generalize (((w.alloc (.cells #[.int .i64 Wa, .slice Aa la.length ca, .int .i64 Wb, .slice Ab lb.length cb, .int .i64 i, .string S] 26)).alloc (.cells #[.int .i64 Wa, .slice Aa la.length ca] 24)).alloc (.cells #[.int .i64 Wb, .slice Ab lb.length cb] 24)) = w0 at *
  go_wp2_with fail
  refine (shown_any _).mono ?_
  rintro e w1 ⟨rfl, hb1⟩
  replace h_a := h_a.nx hb1
  replace h_b := h_b.nx hb1
  replace hB := bnx hB hb1
  obtain ⟨p_a1, p_a2, p_a3⟩ := h_a.parts
  obtain ⟨p_b1, p_b2, p_b3⟩ := h_b.parts
  clear hb1
  go_wp2_with fail
  refine (refSmall_any Aa la.length ca Wa _ Sa.out).mono ?_
  rintro e w2 ⟨rfl, hb2⟩
  clear p_a1 p_a2 p_a3 p_b1 p_b2 p_b3
  replace h_a := h_a.nx hb2
  replace h_b := h_b.nx hb2
  replace hB := bnx hB hb2
  obtain ⟨p_a1, p_a2, p_a3⟩ := h_a.parts
  obtain ⟨p_b1, p_b2, p_b3⟩ := h_b.parts
  clear hb2
  go_wp2_with fail
  refine (refSmall_any Ab lb.length cb Wb _ Sb.out).mono ?_
  rintro e w3 ⟨rfl, hb3⟩
  clear p_a1 p_a2 p_a3 p_b1 p_b2 p_b3
  replace h_a := h_a.nx hb3
  replace h_b := h_b.nx hb3
  replace hB := bnx hB hb3
  obtain ⟨p_a1, p_a2, p_a3⟩ := h_a.parts
  obtain ⟨p_b1, p_b2, p_b3⟩ := h_b.parts
  clear hb3
  go_wp2_with fail
  refine (HM.out.1 _).mono ?_
  rintro e w4 ⟨V4, A4, k4, c4, rfl, rs4, hb4⟩
  clear p_a1 p_a2 p_a3 p_b1 p_b2 p_b3
  replace h_a := h_a.nx hb4
  replace h_b := h_b.nx hb4
  replace hB := bnx hB hb4
  obtain ⟨p_a1, p_a2, p_a3⟩ := h_a.parts
  obtain ⟨p_b1, p_b2, p_b3⟩ := h_b.parts
  clear hb4
  have h_s := Vx.new rs4
  replace h_a := h_a.nx (bal (Below.refl _ _) (.cells #[.int .i64 V4, .slice A4 k4 c4] 24))
  replace h_b := h_b.nx (bal (Below.refl _ _) (.cells #[.int .i64 V4, .slice A4 k4 c4] 24))
  replace hB := bal hB (.cells #[.int .i64 V4, .slice A4 k4 c4] 24)
  clear rs4
  go_wp2_with fail
  generalize w4.alloc (.cells #[.int .i64 V4, .slice A4 k4 c4] 24) = w4m at *
  generalize w4.heap.size = gw4 at *
  refine (HM.out.2 _).mono ?_
  rintro e w5 ⟨V5, A5, k5, c5, rfl, rs5, hb5⟩
  clear p_a1 p_a2 p_a3 p_b1 p_b2 p_b3
  replace h_a := h_a.nx hb5
  replace h_b := h_b.nx hb5
  replace h_s := h_s.nx hb5
  replace hB := bnx hB hb5
  obtain ⟨p_a1, p_a2, p_a3⟩ := h_a.parts
  obtain ⟨p_b1, p_b2, p_b3⟩ := h_b.parts
  obtain ⟨p_s1, p_s2, p_s3⟩ := h_s.parts
  clear hb5
  have h_t := Vx.new rs5
  replace h_a := h_a.nx (bal (Below.refl _ _) (.cells #[.int .i64 V5, .slice A5 k5 c5] 24))
  replace h_b := h_b.nx (bal (Below.refl _ _) (.cells #[.int .i64 V5, .slice A5 k5 c5] 24))
  replace h_s := h_s.nx (bal (Below.refl _ _) (.cells #[.int .i64 V5, .slice A5 k5 c5] 24))
  replace hB := bal hB (.cells #[.int .i64 V5, .slice A5 k5 c5] 24)
  clear rs5
  go_wp2_with fail
  generalize w5.alloc (.cells #[.int .i64 V5, .slice A5 k5 c5] 24) = w5m at *
  generalize w5.heap.size = gw5 at *
  refine (refRight_b Ha.out hB Ra.out).mono ?_
  rintro e w6 ⟨rfl, hb6⟩
  clear p_a1 p_a2 p_a3 p_b1 p_b2 p_b3 p_s1 p_s2 p_s3
  replace h_a := h_a.nx hb6
  replace h_b := h_b.nx hb6
  replace h_s := h_s.nx hb6
  replace h_t := h_t.nx hb6
  replace hB := bnx hB hb6
  obtain ⟨p_a1, p_a2, p_a3⟩ := h_a.parts
  obtain ⟨p_b1, p_b2, p_b3⟩ := h_b.parts
  obtain ⟨p_s1, p_s2, p_s3⟩ := h_s.parts
  obtain ⟨p_t1, p_t2, p_t3⟩ := h_t.parts
  clear hb6
  go_wp2_with fail
  refine (Right_b Ha.out hB Hl.out Hc.out Hd.out Ra.out).mono ?_
  rintro e w7 ⟨rfl, hb7⟩
  clear p_a1 p_a2 p_a3 p_b1 p_b2 p_b3 p_s1 p_s2 p_s3 p_t1 p_t2 p_t3
  replace h_a := h_a.nx hb7
  replace h_b := h_b.nx hb7
  replace h_s := h_s.nx hb7
  replace h_t := h_t.nx hb7
  replace hB := bnx hB hb7
  obtain ⟨p_a1, p_a2, p_a3⟩ := h_a.parts
  obtain ⟨p_b1, p_b2, p_b3⟩ := h_b.parts
  obtain ⟨p_s1, p_s2, p_s3⟩ := h_s.parts
  obtain ⟨p_t1, p_t2, p_t3⟩ := h_t.parts
  clear hb7
  go_wp2_with fail
  refine (same_rs h_s.v h_t.v).mono ?_
  rintro e w8 ⟨rfl, hb8⟩
  clear p_a1 p_a2 p_a3 p_b1 p_b2 p_b3 p_s1 p_s2 p_s3 p_t1 p_t2 p_t3
  replace h_a := h_a.nx hb8
  replace h_b := h_b.nx hb8
  replace h_s := h_s.nx hb8
  replace h_t := h_t.nx hb8
  replace hB := bnx hB hb8
  obtain ⟨p_a1, p_a2, p_a3⟩ := h_a.parts
  obtain ⟨p_b1, p_b2, p_b3⟩ := h_b.parts
  obtain ⟨p_s1, p_s2, p_s3⟩ := h_s.parts
  obtain ⟨p_t1, p_t2, p_t3⟩ := h_t.parts
  clear hb8
  go_wp2_with fail
  refine (refRight_b Hb.out hB Rb.out).mono ?_
  rintro e w9 ⟨rfl, hb9⟩
  clear p_a1 p_a2 p_a3 p_b1 p_b2 p_b3 p_s1 p_s2 p_s3 p_t1 p_t2 p_t3
  replace h_a := h_a.nx hb9
  replace h_b := h_b.nx hb9
  replace h_s := h_s.nx hb9
  replace h_t := h_t.nx hb9
  replace hB := bnx hB hb9
  obtain ⟨p_a1, p_a2, p_a3⟩ := h_a.parts
  obtain ⟨p_b1, p_b2, p_b3⟩ := h_b.parts
  obtain ⟨p_s1, p_s2, p_s3⟩ := h_s.parts
  obtain ⟨p_t1, p_t2, p_t3⟩ := h_t.parts
  clear hb9
  go_wp2
  go_ret
  exact ⟨rfl, hB⟩
theorem tells_boxes {w : World} {ada adb : Addr} {ca cb W V N K : Nat} (ha : Vc w w.heap.size ada ca W N) (hb : Vc w w.heap.size adb cb V K) (i : Int) (S : ByteArray) :
    Va (((w.alloc (.cells #[.int .i64 W, .slice (some ada) (lm W) ca, .int .i64 V, .slice (some adb) (lm V) cb, .int .i64 i, .string S] 26)).alloc (.cells #[.int .i64 W, .slice (some ada) (lm W) ca] 24)).alloc (.cells #[.int .i64 V, .slice (some adb) (lm V) cb] 24)) (w.heap.size + 1) ada ca (lm W) W N (.int .i64 W) ∧ Va (((w.alloc (.cells #[.int .i64 W, .slice (some ada) (lm W) ca, .int .i64 V, .slice (some adb) (lm V) cb, .int .i64 i, .string S] 26)).alloc (.cells #[.int .i64 W, .slice (some ada) (lm W) ca] 24)).alloc (.cells #[.int .i64 V, .slice (some adb) (lm V) cb] 24)) (w.heap.size + 2) adb cb (lm V) V K (.int .i64 V) ∧ Below w.heap.size w (((w.alloc (.cells #[.int .i64 W, .slice (some ada) (lm W) ca, .int .i64 V, .slice (some adb) (lm V) cb, .int .i64 i, .string S] 26)).alloc (.cells #[.int .i64 W, .slice (some ada) (lm W) ca] 24)).alloc (.cells #[.int .i64 V, .slice (some adb) (lm V) cb] 24)) := by
  have B1 := bal (Below.refl w.heap.size w) (.cells #[.int .i64 W, .slice (some ada) (lm W) ca, .int .i64 V, .slice (some adb) (lm V) cb, .int .i64 i, .string S] 26)
  have B2 := bal B1 (.cells #[.int .i64 W, .slice (some ada) (lm W) ca] 24)
  have v1 := Va.new (ha.nx B1) (lm W) (.int .i64 W)
  have v2 := Va.new (hb.nx B2) (lm V) (.int .i64 V)
  have t1 := v1.nx (bal (Below.refl _ _) (.cells #[.int .i64 V, .slice (some adb) (lm V) cb] 24))
  exact ⟨by simpa using t1, by simpa using v2, bal B2 (.cells #[.int .i64 V, .slice (some adb) (lm V) cb] 24)⟩
set_option maxRecDepth 100000 in
set_option maxHeartbeats 16000000 in
theorem tells_main {w : World} {ada adb : Addr} {ca cb W V N K : Nat} (ha : Vc w w.heap.size ada ca W N) (hb : Vc w w.heap.size adb cb V K) (i : Int) (S : ByteArray) (sa : decide (lm W ≤ 4) = true) (sb : decide (lm V ≤ 4) = true) (d1 : decide ((300 : Int) < S.size) = false) (R : Option (Nat × Nat)) (x : Int) (hm : (∀ w, Calls Try.prog 12 #[.string S] w (RetR w R x)) ∧ ∀ w, Calls Try.prog 13 #[.string S] w (RetR w R x)) :
    Calls Try.prog 3 #[.agg #[.int .i64 W, .slice (some ada) (lm W) ca, .int .i64 V, .slice (some adb) (lm V) cb, .int .i64 i, .string S]] w (RetV w (.bool true)) := by
  have Sa := Lib.hid sa
  have Sb := Lib.hid sb
  have HM := Lib.hid hm
  have q1 : (x != x) = false := by simp
  obtain ⟨bt, HT⟩ : ∃ bt, Hid (tb N i = bt) := ⟨_, rfl⟩
  have q2 : (bt == bt) = true := by simp
  obtain ⟨tx, HX⟩ : ∃ tx, Hid (txt W N = tx) := ⟨_, rfl⟩
  obtain ⟨sm, hsm⟩ := same_both ada adb ca cb W V N K
  have HS := Lib.hid hsm
  have q4 : (sm == sm) = true := by simp
  clear sa sb hm hsm
  go_enter Try.func3, Try.ntmps3
  go_wp2_with fail
  obtain ⟨h_a, h_b, hB⟩ := tells_boxes ha hb i S
  clear ha hb
  generalize (((w.alloc (.cells #[.int .i64 W, .slice (some ada) (lm W) ca, .int .i64 V, .slice (some adb) (lm V) cb, .int .i64 i, .string S] 26)).alloc (.cells #[.int .i64 W, .slice (some ada) (lm W) ca] 24)).alloc (.cells #[.int .i64 V, .slice (some adb) (lm V) cb] 24)) = w0 at *
  go_wp2_with fail
  refine (shown_any _).mono ?_
  rintro e w1 ⟨rfl, hb1⟩
  replace h_a := h_a.nx hb1
  replace h_b := h_b.nx hb1
  replace hB := bnx hB hb1
  obtain ⟨p_a1, p_a2, p_a3⟩ := h_a.parts
  obtain ⟨p_b1, p_b2, p_b3⟩ := h_b.parts
  clear hb1
  go_wp2_with fail
  refine (refSmall_any (some ada) (lm W) ca W _ Sa.out).mono ?_
  rintro e w2 ⟨rfl, hb2⟩
  clear p_a1 p_a2 p_a3 p_b1 p_b2 p_b3
  replace h_a := h_a.nx hb2
  replace h_b := h_b.nx hb2
  replace hB := bnx hB hb2
  obtain ⟨p_a1, p_a2, p_a3⟩ := h_a.parts
  obtain ⟨p_b1, p_b2, p_b3⟩ := h_b.parts
  clear hb2
  go_wp2_with fail
  refine (refSmall_any (some adb) (lm V) cb V _ Sb.out).mono ?_
  rintro e w3 ⟨rfl, hb3⟩
  clear p_a1 p_a2 p_a3 p_b1 p_b2 p_b3
  replace h_a := h_a.nx hb3
  replace h_b := h_b.nx hb3
  replace hB := bnx hB hb3
  obtain ⟨p_a1, p_a2, p_a3⟩ := h_a.parts
  obtain ⟨p_b1, p_b2, p_b3⟩ := h_b.parts
  clear hb3
  go_wp2_with fail
  refine (HM.out.1 _).mono ?_
  rintro e w4 ⟨V4, A4, k4, c4, rfl, rs4, hb4⟩
  clear p_a1 p_a2 p_a3 p_b1 p_b2 p_b3
  replace h_a := h_a.nx hb4
  replace h_b := h_b.nx hb4
  replace hB := bnx hB hb4
  obtain ⟨p_a1, p_a2, p_a3⟩ := h_a.parts
  obtain ⟨p_b1, p_b2, p_b3⟩ := h_b.parts
  clear hb4
  have h_s := Vx.new rs4
  replace h_a := h_a.nx (bal (Below.refl _ _) (.cells #[.int .i64 V4, .slice A4 k4 c4] 24))
  replace h_b := h_b.nx (bal (Below.refl _ _) (.cells #[.int .i64 V4, .slice A4 k4 c4] 24))
  replace hB := bal hB (.cells #[.int .i64 V4, .slice A4 k4 c4] 24)
  clear rs4
  go_wp2_with fail
  generalize w4.alloc (.cells #[.int .i64 V4, .slice A4 k4 c4] 24) = w4m at *
  generalize w4.heap.size = gw4 at *
  refine (HM.out.2 _).mono ?_
  rintro e w5 ⟨V5, A5, k5, c5, rfl, rs5, hb5⟩
  clear p_a1 p_a2 p_a3 p_b1 p_b2 p_b3
  replace h_a := h_a.nx hb5
  replace h_b := h_b.nx hb5
  replace h_s := h_s.nx hb5
  replace hB := bnx hB hb5
  obtain ⟨p_a1, p_a2, p_a3⟩ := h_a.parts
  obtain ⟨p_b1, p_b2, p_b3⟩ := h_b.parts
  obtain ⟨p_s1, p_s2, p_s3⟩ := h_s.parts
  clear hb5
  have h_t := Vx.new rs5
  replace h_a := h_a.nx (bal (Below.refl _ _) (.cells #[.int .i64 V5, .slice A5 k5 c5] 24))
  replace h_b := h_b.nx (bal (Below.refl _ _) (.cells #[.int .i64 V5, .slice A5 k5 c5] 24))
  replace h_s := h_s.nx (bal (Below.refl _ _) (.cells #[.int .i64 V5, .slice A5 k5 c5] 24))
  replace hB := bal hB (.cells #[.int .i64 V5, .slice A5 k5 c5] 24)
  clear rs5
  go_wp2_with fail
  generalize w5.alloc (.cells #[.int .i64 V5, .slice A5 k5 c5] 24) = w5m at *
  generalize w5.heap.size = gw5 at *
  refine (refRight_vc h_a.v).mono ?_
  rintro e w6 ⟨rfl, hb6⟩
  clear p_a1 p_a2 p_a3 p_b1 p_b2 p_b3 p_s1 p_s2 p_s3
  replace h_a := h_a.nx hb6
  replace h_b := h_b.nx hb6
  replace h_s := h_s.nx hb6
  replace h_t := h_t.nx hb6
  replace hB := bnx hB hb6
  obtain ⟨p_a1, p_a2, p_a3⟩ := h_a.parts
  obtain ⟨p_b1, p_b2, p_b3⟩ := h_b.parts
  obtain ⟨p_s1, p_s2, p_s3⟩ := h_s.parts
  obtain ⟨p_t1, p_t2, p_t3⟩ := h_t.parts
  clear hb6
  go_wp2_with fail
  refine (Right_yes h_a.v).mono ?_
  rintro e w7 ⟨rfl, hb7⟩
  clear p_a1 p_a2 p_a3 p_b1 p_b2 p_b3 p_s1 p_s2 p_s3 p_t1 p_t2 p_t3
  replace h_a := h_a.nx hb7
  replace h_b := h_b.nx hb7
  replace h_s := h_s.nx hb7
  replace h_t := h_t.nx hb7
  replace hB := bnx hB hb7
  obtain ⟨p_a1, p_a2, p_a3⟩ := h_a.parts
  obtain ⟨p_b1, p_b2, p_b3⟩ := h_b.parts
  obtain ⟨p_s1, p_s2, p_s3⟩ := h_s.parts
  obtain ⟨p_t1, p_t2, p_t3⟩ := h_t.parts
  clear hb7
  go_wp2_with fail
  refine (same_rs h_s.v h_t.v).mono ?_
  rintro e w8 ⟨rfl, hb8⟩
  clear p_a1 p_a2 p_a3 p_b1 p_b2 p_b3 p_s1 p_s2 p_s3 p_t1 p_t2 p_t3
  replace h_a := h_a.nx hb8
  replace h_b := h_b.nx hb8
  replace h_s := h_s.nx hb8
  replace h_t := h_t.nx hb8
  replace hB := bnx hB hb8
  obtain ⟨p_a1, p_a2, p_a3⟩ := h_a.parts
  obtain ⟨p_b1, p_b2, p_b3⟩ := h_b.parts
  obtain ⟨p_s1, p_s2, p_s3⟩ := h_s.parts
  obtain ⟨p_t1, p_t2, p_t3⟩ := h_t.parts
  clear hb8
  go_wp2_with fail
  refine (refRight_vc h_b.v).mono ?_
  rintro e w9 ⟨rfl, hb9⟩
  clear p_a1 p_a2 p_a3 p_b1 p_b2 p_b3 p_s1 p_s2 p_s3 p_t1 p_t2 p_t3
  replace h_a := h_a.nx hb9
  replace h_b := h_b.nx hb9
  replace h_s := h_s.nx hb9
  replace h_t := h_t.nx hb9
  replace hB := bnx hB hb9
  obtain ⟨p_a1, p_a2, p_a3⟩ := h_a.parts
  obtain ⟨p_b1, p_b2, p_b3⟩ := h_b.parts
  obtain ⟨p_s1, p_s2, p_s3⟩ := h_s.parts
  obtain ⟨p_t1, p_t2, p_t3⟩ := h_t.parts
  clear hb9
  go_wp2_with fail
  have xhU0 := (Below.refl (w9).heap.size w9).drew
  have xh_a0 := h_a.nx xhU0
  have xh_b0 := h_b.nx xhU0
  have xK0 := keep_two xh_a0 xh_b0
  clear p_a1 p_a2 p_a3 p_b1 p_b2 p_b3 p_s1 p_s2 p_s3 p_t1 p_t2 p_t3
  go_cut [2] (fun s2 wx => s2 = .bool true ∧ Below (w9).heap.size w9 wx)
  case first =>
    go_region_held3 (fun w' => w'.cell? ⟨w.heap.size + 1, 0, none⟩ = some (.int .i64 W) ∧ w'.cell? ⟨w.heap.size + 1, 1, none⟩ = some (.slice (some ada) (lm W) ca) ∧ w'.cell? ⟨w.heap.size + 2, 0, none⟩ = some (.int .i64 V) ∧ w'.cell? ⟨w.heap.size + 2, 1, none⟩ = some (.slice (some adb) (lm V) cb))
      (first | exact xK0 | exact xK1 | exact xK2 | exact xK3 | exact xK4 | exact xK5 | exact xK6)
      (first | (go_at_call 17; ((with_reducible refine (Bit_b xh_a0.v HT.out).mono ?_); rintro e xu1 ⟨rfl, xhu1⟩; have xh_a1 := xh_a0.nx xhu1; have xh_b1 := xh_b0.nx xhu1; have xhU1 := bnx xhU0 xhu1; have xK1 := keep_two xh_a1 xh_b1)) | (go_at_call 18; ((with_reducible refine (refBit_b xh_a1.v HT.out).mono ?_); rintro e xu2 ⟨rfl, xhu2⟩; have xh_a2 := xh_a1.nx xhu2; have xh_b2 := xh_b1.nx xhu2; have xhU2 := bnx xhU1 xhu2; have xK2 := keep_two xh_a2 xh_b2)) | (go_at_call 19; ((with_reducible refine (Text_b xh_a2.v HX.out).mono ?_); rintro e xu3 ⟨rfl, xhu3⟩; have xh_a3 := xh_a2.nx xhu3; have xh_b3 := xh_b2.nx xhu3; have xhU3 := bnx xhU2 xhu3; have xK3 := keep_two xh_a3 xh_b3)) | (go_at_call 20; ((with_reducible refine (refText_b xh_a3.v HX.out).mono ?_); rintro e xu4 ⟨rfl, xhu4⟩; have xh_a4 := xh_a3.nx xhu4; have xh_b4 := xh_b3.nx xhu4; have xhU4 := bnx xhU3 xhu4; have xK4 := keep_two xh_a4 xh_b4)) | (go_at_call 21; ((with_reducible refine ((HS.out _ xh_a4.v xh_b4.v).1).mono ?_); rintro e xu5 ⟨rfl, xhu5⟩; have xh_a5 := xh_a4.nx xhu5; have xh_b5 := xh_b4.nx xhu5; have xhU5 := bnx xhU4 xhu5; have xK5 := keep_two xh_a5 xh_b5)) | (go_at_call 16; ((with_reducible refine ((HS.out _ xh_a5.v xh_b5.v).2).mono ?_); rintro e xu6 ⟨rfl, xhu6⟩; have xh_a6 := xh_a5.nx xhu6; have xh_b6 := xh_b5.nx xhu6; have xhU6 := bnx xhU5 xhu6; have xK6 := keep_two xh_a6 xh_b6)))
    all_goals (go_wp2_with fail; go_meet; exact ⟨by first | rfl | simp, xhU6⟩)
  obtain ⟨rfl, hU⟩ := hcut
  clear xh_a0 xh_b0 xK0 xhU0
  replace h_a := h_a.nx hU
  replace h_b := h_b.nx hU
  replace h_s := h_s.nx hU
  replace h_t := h_t.nx hU
  replace hB := bnx hB hU
  clear hU
  obtain ⟨p_a1, p_a2, p_a3⟩ := h_a.parts
  obtain ⟨p_b1, p_b2, p_b3⟩ := h_b.parts
  obtain ⟨p_s1, p_s2, p_s3⟩ := h_s.parts
  obtain ⟨p_t1, p_t2, p_t3⟩ := h_t.parts
  go_wp2
  go_ret
  exact ⟨rfl, hB⟩
end Go.Proofs.Ytnnoflohekmnbaa
