/-
  The walk of VecCuts.
-/
import Derived.Test.YtnnoflohekmnbaaProg
import Derived.WalkKit
import Derived.WalkSpells
import Derived.WalkLawsBesides
import Derived.LoopN
import Derived.IntWalk
import Derived.Lib.Hide
import Derived.Laws.BitsAllLaws
import Derived.Laws.Externs
import Derived.BigQuiet
import Derived.BigRegion
import Derived.Deep.QuietTactic
import Derived.Deep.RegionWith
import Derived.Deep.RegionHeld3
import Derived.StillTailTactics
import Derived.RegionTactic
import Derived.ChangeAlike
import Derived.Test.YtnnoflohekmnbaaR2
import Derived.Test.YtnnoflohekmnbaaE1
set_option linter.unusedVariables false
namespace Go.Proofs.Ytnnoflohekmnbaa
open Go.RowKit
/-- What a call told, in a variable of its own. -/
structure Vx (wr : World) (g : Nat) (V : Int) (A : Option Addr) (k c : Nat) (R : Option (Nat × Nat)) : Prop where
  d : Duo wr g (.int .i64 V) (.slice A k c)
  v : Rs wr V A k c R
theorem Vx.nx {wr w1 : World} {g : Nat} {V : Int} {A : Option Addr} {k c : Nat} {R : Option (Nat × Nat)} (h : Vx wr g V A k c R) (hb : Below wr.heap.size wr w1) : Vx w1 g V A k c R :=
  ⟨h.d.below hb (World.block_lt_of_cell? wr _ h.d.1), h.v.nx hb⟩
theorem Vx.new {w1 : World} {V : Int} {A : Option Addr} {k c : Nat} {R : Option (Nat × Nat)} (h : Rs w1 V A k c R) : Vx (w1.alloc (.cells #[.int .i64 V, .slice A k c] 24)) w1.heap.size V A k c R :=
  ⟨by refine ⟨?_, ?_, ?_, ?_⟩ <;> go_simp, h.nx (bal (Below.refl _ _) _)⟩
theorem Vx.parts {wr : World} {g : Nat} {V : Int} {A : Option Addr} {k c : Nat} {R : Option (Nat × Nat)} (h : Vx wr g V A k c R) : wr.cell? ⟨g, 0, none⟩ = some (.int .i64 V) ∧ wr.cell? ⟨g, 1, none⟩ = some (.slice A k c) ∧ g < wr.heap.size :=
  ⟨h.d.1, h.d.2.1, World.block_lt_of_cell? wr _ h.d.1⟩
/-- Three numbers in a variable. -/
structure Tri (wr : World) (g : Nat) (x y z : Int) : Prop where
  a : wr.cell? ⟨g, 0, none⟩ = some (.int .i64 x)
  b : wr.cell? ⟨g, 1, none⟩ = some (.int .i64 y)
  c : wr.cell? ⟨g, 2, none⟩ = some (.int .i64 z)
theorem Tri.nx {wr w1 : World} {g : Nat} {x y z : Int} (h : Tri wr g x y z) (hb : Below wr.heap.size wr w1) : Tri w1 g x y z := by
  have hg := World.block_lt_of_cell? wr _ h.a
  exact ⟨(hb.cell (p := ⟨g, 0, none⟩) hg).trans h.a, (hb.cell (p := ⟨g, 1, none⟩) hg).trans h.b, (hb.cell (p := ⟨g, 2, none⟩) hg).trans h.c⟩
theorem Tri.parts {wr : World} {g : Nat} {x y z : Int} (h : Tri wr g x y z) : wr.cell? ⟨g, 0, none⟩ = some (.int .i64 x) ∧ wr.cell? ⟨g, 1, none⟩ = some (.int .i64 y) ∧ wr.cell? ⟨g, 2, none⟩ = some (.int .i64 z) ∧ g < wr.heap.size := ⟨h.a, h.b, h.c, World.block_lt_of_cell? wr _ h.a⟩
theorem cuts_boxes {w : World} {ada adb adc : Addr} {ca cb cc W V U N K M : Nat} (ha : Vc w w.heap.size ada ca W N) (hb : Vc w w.heap.size adb cb V K) (hc : Vc w w.heap.size adc cc U M) (x0 x1 x2 : Int) (sg : Bool) :
    Va (((((w.alloc (.cells #[.int .i64 W, .slice (some ada) (lm W) ca, .int .i64 V, .slice (some adb) (lm V) cb, .int .i64 U, .slice (some adc) (lm U) cc, .int .i64 x0, .int .i64 x1, .int .i64 x2, .bool sg] 45)).alloc (.cells #[.int .i64 W, .slice (some ada) (lm W) ca] 24)).alloc (.cells #[.int .i64 V, .slice (some adb) (lm V) cb] 24)).alloc (.cells #[.int .i64 U, .slice (some adc) (lm U) cc] 24)).alloc (.cells #[.int .i64 x0, .int .i64 x1, .int .i64 x2] 43)) (w.heap.size + 1) ada ca (lm W) W N (.int .i64 W) ∧ Va (((((w.alloc (.cells #[.int .i64 W, .slice (some ada) (lm W) ca, .int .i64 V, .slice (some adb) (lm V) cb, .int .i64 U, .slice (some adc) (lm U) cc, .int .i64 x0, .int .i64 x1, .int .i64 x2, .bool sg] 45)).alloc (.cells #[.int .i64 W, .slice (some ada) (lm W) ca] 24)).alloc (.cells #[.int .i64 V, .slice (some adb) (lm V) cb] 24)).alloc (.cells #[.int .i64 U, .slice (some adc) (lm U) cc] 24)).alloc (.cells #[.int .i64 x0, .int .i64 x1, .int .i64 x2] 43)) (w.heap.size + 2) adb cb (lm V) V K (.int .i64 V) ∧ Va (((((w.alloc (.cells #[.int .i64 W, .slice (some ada) (lm W) ca, .int .i64 V, .slice (some adb) (lm V) cb, .int .i64 U, .slice (some adc) (lm U) cc, .int .i64 x0, .int .i64 x1, .int .i64 x2, .bool sg] 45)).alloc (.cells #[.int .i64 W, .slice (some ada) (lm W) ca] 24)).alloc (.cells #[.int .i64 V, .slice (some adb) (lm V) cb] 24)).alloc (.cells #[.int .i64 U, .slice (some adc) (lm U) cc] 24)).alloc (.cells #[.int .i64 x0, .int .i64 x1, .int .i64 x2] 43)) (w.heap.size + 3) adc cc (lm U) U M (.int .i64 U) ∧ Tri (((((w.alloc (.cells #[.int .i64 W, .slice (some ada) (lm W) ca, .int .i64 V, .slice (some adb) (lm V) cb, .int .i64 U, .slice (some adc) (lm U) cc, .int .i64 x0, .int .i64 x1, .int .i64 x2, .bool sg] 45)).alloc (.cells #[.int .i64 W, .slice (some ada) (lm W) ca] 24)).alloc (.cells #[.int .i64 V, .slice (some adb) (lm V) cb] 24)).alloc (.cells #[.int .i64 U, .slice (some adc) (lm U) cc] 24)).alloc (.cells #[.int .i64 x0, .int .i64 x1, .int .i64 x2] 43)) (w.heap.size + 4) x0 x1 x2 ∧ Below w.heap.size w (((((w.alloc (.cells #[.int .i64 W, .slice (some ada) (lm W) ca, .int .i64 V, .slice (some adb) (lm V) cb, .int .i64 U, .slice (some adc) (lm U) cc, .int .i64 x0, .int .i64 x1, .int .i64 x2, .bool sg] 45)).alloc (.cells #[.int .i64 W, .slice (some ada) (lm W) ca] 24)).alloc (.cells #[.int .i64 V, .slice (some adb) (lm V) cb] 24)).alloc (.cells #[.int .i64 U, .slice (some adc) (lm U) cc] 24)).alloc (.cells #[.int .i64 x0, .int .i64 x1, .int .i64 x2] 43)) := by
  have B1 := bal (Below.refl w.heap.size w) (.cells #[.int .i64 W, .slice (some ada) (lm W) ca, .int .i64 V, .slice (some adb) (lm V) cb, .int .i64 U, .slice (some adc) (lm U) cc, .int .i64 x0, .int .i64 x1, .int .i64 x2, .bool sg] 45)
  have B2 := bal B1 (.cells #[.int .i64 W, .slice (some ada) (lm W) ca] 24)
  have B3 := bal B2 (.cells #[.int .i64 V, .slice (some adb) (lm V) cb] 24)
  have B4 := bal B3 (.cells #[.int .i64 U, .slice (some adc) (lm U) cc] 24)
  have B5 := bal B4 (.cells #[.int .i64 x0, .int .i64 x1, .int .i64 x2] 43)
  have v1 := Va.new (ha.nx B1) (lm W) (.int .i64 W)
  have v2 := Va.new (hb.nx B2) (lm V) (.int .i64 V)
  have v3 := Va.new (hc.nx B3) (lm U) (.int .i64 U)
  have t1 := ((v1.nx (bal (Below.refl _ _) (.cells #[.int .i64 V, .slice (some adb) (lm V) cb] 24))).nx (bal (Below.refl _ _) (.cells #[.int .i64 U, .slice (some adc) (lm U) cc] 24))).nx (bal (Below.refl _ _) (.cells #[.int .i64 x0, .int .i64 x1, .int .i64 x2] 43))
  have t2 := (v2.nx (bal (Below.refl _ _) (.cells #[.int .i64 U, .slice (some adc) (lm U) cc] 24))).nx (bal (Below.refl _ _) (.cells #[.int .i64 x0, .int .i64 x1, .int .i64 x2] 43))
  have t3 := v3.nx (bal (Below.refl _ _) (.cells #[.int .i64 x0, .int .i64 x1, .int .i64 x2] 43))
  refine ⟨by simpa using t1, by simpa using t2, by simpa using t3, ?_, B5⟩
  constructor <;> go_simp
set_option maxRecDepth 100000 in
set_option maxHeartbeats 16000000 in
theorem cuts_main {w : World} {ada adb adc : Addr} {ca cb cc W V U N K M : Nat} (ha : Vc w w.heap.size ada ca W N) (hb : Vc w w.heap.size adb cb V K) (hc : Vc w w.heap.size adc cc U M) (x0 x1 x2 : Int) (sg : Bool) (R1 R2 R3 : Option (Nat × Nat)) (e1 e2 e3 : Int)
    (HS : Hid (∀ wx, Vc wx wx.heap.size ada ca W N → Calls Try.prog 26 #[.agg #[.int .i64 W, .slice (some ada) (lm W) ca], .int .i64 x0, .int .i64 x1] wx (RetR wx R1 e1) ∧ Calls Try.prog 27 #[.agg #[.int .i64 W, .slice (some ada) (lm W) ca], .int .i64 x0, .int .i64 x1] wx (RetR wx R1 e1)))
    (HE : Hid (∀ wx, Vc wx wx.heap.size ada ca W N → Calls Try.prog 28 #[.agg #[.int .i64 W, .slice (some ada) (lm W) ca], .int .i64 x2, .bool sg] wx (RetR wx R2 e2) ∧ Calls Try.prog 29 #[.agg #[.int .i64 W, .slice (some ada) (lm W) ca], .int .i64 x2, .bool sg] wx (RetR wx R2 e2)))
    (HI : Hid (∀ wx, Vc wx wx.heap.size adc cc U M → Vc wx wx.heap.size ada ca W N → Vc wx wx.heap.size adb cb V K → Calls Try.prog 30 #[.agg #[.int .i64 U, .slice (some adc) (lm U) cc], .agg #[.int .i64 W, .slice (some ada) (lm W) ca], .agg #[.int .i64 V, .slice (some adb) (lm V) cb]] wx (RetR wx R3 e3) ∧ Calls Try.prog 31 #[.agg #[.int .i64 U, .slice (some adc) (lm U) cc], .agg #[.int .i64 W, .slice (some ada) (lm W) ca], .agg #[.int .i64 V, .slice (some adb) (lm V) cb]] wx (RetR wx R3 e3))) :
    Calls Try.prog 5 #[.agg #[.int .i64 W, .slice (some ada) (lm W) ca, .int .i64 V, .slice (some adb) (lm V) cb, .int .i64 U, .slice (some adc) (lm U) cc, .int .i64 x0, .int .i64 x1, .int .i64 x2, .bool sg]] w (RetV w (.bool true)) := by
  have q1 : (e1 == e1) = true := by simp
  have q2 : (e2 == e2) = true := by simp
  have q3 : (e3 == e3) = true := by simp
  go_enter Try.func5, Try.ntmps5
  go_wp2_with fail
  obtain ⟨h_a, h_b, h_c, h_x, hB⟩ := cuts_boxes ha hb hc x0 x1 x2 sg
  clear ha hb hc
  generalize (((((w.alloc (.cells #[.int .i64 W, .slice (some ada) (lm W) ca, .int .i64 V, .slice (some adb) (lm V) cb, .int .i64 U, .slice (some adc) (lm U) cc, .int .i64 x0, .int .i64 x1, .int .i64 x2, .bool sg] 45)).alloc (.cells #[.int .i64 W, .slice (some ada) (lm W) ca] 24)).alloc (.cells #[.int .i64 V, .slice (some adb) (lm V) cb] 24)).alloc (.cells #[.int .i64 U, .slice (some adc) (lm U) cc] 24)).alloc (.cells #[.int .i64 x0, .int .i64 x1, .int .i64 x2] 43)) = w0 at *
  go_wp2_with fail
  refine (shown_any _).mono ?_
  rintro e w1 ⟨rfl, hb1⟩
  replace h_a := h_a.nx hb1
  replace h_b := h_b.nx hb1
  replace h_c := h_c.nx hb1
  replace h_x := h_x.nx hb1
  replace hB := bnx hB hb1
  obtain ⟨p_a1, p_a2, p_a3⟩ := h_a.parts
  obtain ⟨p_b1, p_b2, p_b3⟩ := h_b.parts
  obtain ⟨p_c1, p_c2, p_c3⟩ := h_c.parts
  obtain ⟨p_x1, p_x2, p_x3, p_x4⟩ := h_x.parts
  clear hb1
  go_wp2_with fail
  refine (refRight_vc h_a.v).mono ?_
  rintro e w2 ⟨rfl, hb2⟩
  clear p_a1 p_a2 p_a3 p_b1 p_b2 p_b3 p_c1 p_c2 p_c3 p_x1 p_x2 p_x3 p_x4
  replace h_a := h_a.nx hb2
  replace h_b := h_b.nx hb2
  replace h_c := h_c.nx hb2
  replace h_x := h_x.nx hb2
  replace hB := bnx hB hb2
  obtain ⟨p_a1, p_a2, p_a3⟩ := h_a.parts
  obtain ⟨p_b1, p_b2, p_b3⟩ := h_b.parts
  obtain ⟨p_c1, p_c2, p_c3⟩ := h_c.parts
  obtain ⟨p_x1, p_x2, p_x3, p_x4⟩ := h_x.parts
  clear hb2
  go_wp2_with fail
  refine (refRight_vc h_b.v).mono ?_
  rintro e w3 ⟨rfl, hb3⟩
  clear p_a1 p_a2 p_a3 p_b1 p_b2 p_b3 p_c1 p_c2 p_c3 p_x1 p_x2 p_x3 p_x4
  replace h_a := h_a.nx hb3
  replace h_b := h_b.nx hb3
  replace h_c := h_c.nx hb3
  replace h_x := h_x.nx hb3
  replace hB := bnx hB hb3
  obtain ⟨p_a1, p_a2, p_a3⟩ := h_a.parts
  obtain ⟨p_b1, p_b2, p_b3⟩ := h_b.parts
  obtain ⟨p_c1, p_c2, p_c3⟩ := h_c.parts
  obtain ⟨p_x1, p_x2, p_x3, p_x4⟩ := h_x.parts
  clear hb3
  go_wp2_with fail
  refine (refRight_vc h_c.v).mono ?_
  rintro e w4 ⟨rfl, hb4⟩
  clear p_a1 p_a2 p_a3 p_b1 p_b2 p_b3 p_c1 p_c2 p_c3 p_x1 p_x2 p_x3 p_x4
  replace h_a := h_a.nx hb4
  replace h_b := h_b.nx hb4
  replace h_c := h_c.nx hb4
  replace h_x := h_x.nx hb4
  replace hB := bnx hB hb4
  obtain ⟨p_a1, p_a2, p_a3⟩ := h_a.parts
  obtain ⟨p_b1, p_b2, p_b3⟩ := h_b.parts
  obtain ⟨p_c1, p_c2, p_c3⟩ := h_c.parts
  obtain ⟨p_x1, p_x2, p_x3, p_x4⟩ := h_x.parts
  clear hb4
  go_wp2_with fail
  refine ((HS.out _ h_a.v).1).mono ?_
  rintro e w5 ⟨V5, A5, k5, c5, rfl, rs5, hb5⟩
  clear p_a1 p_a2 p_a3 p_b1 p_b2 p_b3 p_c1 p_c2 p_c3 p_x1 p_x2 p_x3 p_x4
  replace h_a := h_a.nx hb5
  replace h_b := h_b.nx hb5
  replace h_c := h_c.nx hb5
  replace h_x := h_x.nx hb5
  replace hB := bnx hB hb5
  obtain ⟨p_a1, p_a2, p_a3⟩ := h_a.parts
  obtain ⟨p_b1, p_b2, p_b3⟩ := h_b.parts
  obtain ⟨p_c1, p_c2, p_c3⟩ := h_c.parts
  obtain ⟨p_x1, p_x2, p_x3, p_x4⟩ := h_x.parts
  clear hb5
  have h_s := Vx.new rs5
  replace h_a := h_a.nx (bal (Below.refl _ _) (.cells #[.int .i64 V5, .slice A5 k5 c5] 24))
  replace h_b := h_b.nx (bal (Below.refl _ _) (.cells #[.int .i64 V5, .slice A5 k5 c5] 24))
  replace h_c := h_c.nx (bal (Below.refl _ _) (.cells #[.int .i64 V5, .slice A5 k5 c5] 24))
  replace h_x := h_x.nx (bal (Below.refl _ _) (.cells #[.int .i64 V5, .slice A5 k5 c5] 24))
  replace hB := bal hB (.cells #[.int .i64 V5, .slice A5 k5 c5] 24)
  clear rs5
  go_wp2_with fail
  generalize w5.alloc (.cells #[.int .i64 V5, .slice A5 k5 c5] 24) = w5m at *
  generalize w5.heap.size = gw5 at *
  refine ((HS.out _ h_a.v).2).mono ?_
  rintro e w6 ⟨V6, A6, k6, c6, rfl, rs6, hb6⟩
  clear p_a1 p_a2 p_a3 p_b1 p_b2 p_b3 p_c1 p_c2 p_c3 p_x1 p_x2 p_x3 p_x4
  replace h_a := h_a.nx hb6
  replace h_b := h_b.nx hb6
  replace h_c := h_c.nx hb6
  replace h_x := h_x.nx hb6
  replace h_s := h_s.nx hb6
  replace hB := bnx hB hb6
  obtain ⟨p_a1, p_a2, p_a3⟩ := h_a.parts
  obtain ⟨p_b1, p_b2, p_b3⟩ := h_b.parts
  obtain ⟨p_c1, p_c2, p_c3⟩ := h_c.parts
  obtain ⟨p_x1, p_x2, p_x3, p_x4⟩ := h_x.parts
  obtain ⟨p_s1, p_s2, p_s3⟩ := h_s.parts
  clear hb6
  have h_t := Vx.new rs6
  replace h_a := h_a.nx (bal (Below.refl _ _) (.cells #[.int .i64 V6, .slice A6 k6 c6] 24))
  replace h_b := h_b.nx (bal (Below.refl _ _) (.cells #[.int .i64 V6, .slice A6 k6 c6] 24))
  replace h_c := h_c.nx (bal (Below.refl _ _) (.cells #[.int .i64 V6, .slice A6 k6 c6] 24))
  replace h_x := h_x.nx (bal (Below.refl _ _) (.cells #[.int .i64 V6, .slice A6 k6 c6] 24))
  replace h_s := h_s.nx (bal (Below.refl _ _) (.cells #[.int .i64 V6, .slice A6 k6 c6] 24))
  replace hB := bal hB (.cells #[.int .i64 V6, .slice A6 k6 c6] 24)
  clear rs6
  go_wp2_with fail
  generalize w6.alloc (.cells #[.int .i64 V6, .slice A6 k6 c6] 24) = w6m at *
  generalize w6.heap.size = gw6 at *
  refine ((HE.out _ h_a.v).1).mono ?_
  rintro e w7 ⟨V7, A7, k7, c7, rfl, rs7, hb7⟩
  clear p_a1 p_a2 p_a3 p_b1 p_b2 p_b3 p_c1 p_c2 p_c3 p_x1 p_x2 p_x3 p_x4 p_s1 p_s2 p_s3
  replace h_a := h_a.nx hb7
  replace h_b := h_b.nx hb7
  replace h_c := h_c.nx hb7
  replace h_x := h_x.nx hb7
  replace h_s := h_s.nx hb7
  replace h_t := h_t.nx hb7
  replace hB := bnx hB hb7
  obtain ⟨p_a1, p_a2, p_a3⟩ := h_a.parts
  obtain ⟨p_b1, p_b2, p_b3⟩ := h_b.parts
  obtain ⟨p_c1, p_c2, p_c3⟩ := h_c.parts
  obtain ⟨p_x1, p_x2, p_x3, p_x4⟩ := h_x.parts
  obtain ⟨p_s1, p_s2, p_s3⟩ := h_s.parts
  obtain ⟨p_t1, p_t2, p_t3⟩ := h_t.parts
  clear hb7
  have h_p := Vx.new rs7
  replace h_a := h_a.nx (bal (Below.refl _ _) (.cells #[.int .i64 V7, .slice A7 k7 c7] 24))
  replace h_b := h_b.nx (bal (Below.refl _ _) (.cells #[.int .i64 V7, .slice A7 k7 c7] 24))
  replace h_c := h_c.nx (bal (Below.refl _ _) (.cells #[.int .i64 V7, .slice A7 k7 c7] 24))
  replace h_x := h_x.nx (bal (Below.refl _ _) (.cells #[.int .i64 V7, .slice A7 k7 c7] 24))
  replace h_s := h_s.nx (bal (Below.refl _ _) (.cells #[.int .i64 V7, .slice A7 k7 c7] 24))
  replace h_t := h_t.nx (bal (Below.refl _ _) (.cells #[.int .i64 V7, .slice A7 k7 c7] 24))
  replace hB := bal hB (.cells #[.int .i64 V7, .slice A7 k7 c7] 24)
  clear rs7
  go_wp2_with fail
  generalize w7.alloc (.cells #[.int .i64 V7, .slice A7 k7 c7] 24) = w7m at *
  generalize w7.heap.size = gw7 at *
  refine ((HE.out _ h_a.v).2).mono ?_
  rintro e w8 ⟨V8, A8, k8, c8, rfl, rs8, hb8⟩
  clear p_a1 p_a2 p_a3 p_b1 p_b2 p_b3 p_c1 p_c2 p_c3 p_x1 p_x2 p_x3 p_x4 p_s1 p_s2 p_s3 p_t1 p_t2 p_t3
  replace h_a := h_a.nx hb8
  replace h_b := h_b.nx hb8
  replace h_c := h_c.nx hb8
  replace h_x := h_x.nx hb8
  replace h_s := h_s.nx hb8
  replace h_t := h_t.nx hb8
  replace h_p := h_p.nx hb8
  replace hB := bnx hB hb8
  obtain ⟨p_a1, p_a2, p_a3⟩ := h_a.parts
  obtain ⟨p_b1, p_b2, p_b3⟩ := h_b.parts
  obtain ⟨p_c1, p_c2, p_c3⟩ := h_c.parts
  obtain ⟨p_x1, p_x2, p_x3, p_x4⟩ := h_x.parts
  obtain ⟨p_s1, p_s2, p_s3⟩ := h_s.parts
  obtain ⟨p_t1, p_t2, p_t3⟩ := h_t.parts
  obtain ⟨p_p1, p_p2, p_p3⟩ := h_p.parts
  clear hb8
  have h_q := Vx.new rs8
  replace h_a := h_a.nx (bal (Below.refl _ _) (.cells #[.int .i64 V8, .slice A8 k8 c8] 24))
  replace h_b := h_b.nx (bal (Below.refl _ _) (.cells #[.int .i64 V8, .slice A8 k8 c8] 24))
  replace h_c := h_c.nx (bal (Below.refl _ _) (.cells #[.int .i64 V8, .slice A8 k8 c8] 24))
  replace h_x := h_x.nx (bal (Below.refl _ _) (.cells #[.int .i64 V8, .slice A8 k8 c8] 24))
  replace h_s := h_s.nx (bal (Below.refl _ _) (.cells #[.int .i64 V8, .slice A8 k8 c8] 24))
  replace h_t := h_t.nx (bal (Below.refl _ _) (.cells #[.int .i64 V8, .slice A8 k8 c8] 24))
  replace h_p := h_p.nx (bal (Below.refl _ _) (.cells #[.int .i64 V8, .slice A8 k8 c8] 24))
  replace hB := bal hB (.cells #[.int .i64 V8, .slice A8 k8 c8] 24)
  clear rs8
  go_wp2_with fail
  generalize w8.alloc (.cells #[.int .i64 V8, .slice A8 k8 c8] 24) = w8m at *
  generalize w8.heap.size = gw8 at *
  refine ((HI.out _ h_c.v h_a.v h_b.v).1).mono ?_
  rintro e w9 ⟨V9, A9, k9, c9, rfl, rs9, hb9⟩
  clear p_a1 p_a2 p_a3 p_b1 p_b2 p_b3 p_c1 p_c2 p_c3 p_x1 p_x2 p_x3 p_x4 p_s1 p_s2 p_s3 p_t1 p_t2 p_t3 p_p1 p_p2 p_p3
  replace h_a := h_a.nx hb9
  replace h_b := h_b.nx hb9
  replace h_c := h_c.nx hb9
  replace h_x := h_x.nx hb9
  replace h_s := h_s.nx hb9
  replace h_t := h_t.nx hb9
  replace h_p := h_p.nx hb9
  replace h_q := h_q.nx hb9
  replace hB := bnx hB hb9
  obtain ⟨p_a1, p_a2, p_a3⟩ := h_a.parts
  obtain ⟨p_b1, p_b2, p_b3⟩ := h_b.parts
  obtain ⟨p_c1, p_c2, p_c3⟩ := h_c.parts
  obtain ⟨p_x1, p_x2, p_x3, p_x4⟩ := h_x.parts
  obtain ⟨p_s1, p_s2, p_s3⟩ := h_s.parts
  obtain ⟨p_t1, p_t2, p_t3⟩ := h_t.parts
  obtain ⟨p_p1, p_p2, p_p3⟩ := h_p.parts
  obtain ⟨p_q1, p_q2, p_q3⟩ := h_q.parts
  clear hb9
  have h_y := Vx.new rs9
  replace h_a := h_a.nx (bal (Below.refl _ _) (.cells #[.int .i64 V9, .slice A9 k9 c9] 24))
  replace h_b := h_b.nx (bal (Below.refl _ _) (.cells #[.int .i64 V9, .slice A9 k9 c9] 24))
  replace h_c := h_c.nx (bal (Below.refl _ _) (.cells #[.int .i64 V9, .slice A9 k9 c9] 24))
  replace h_x := h_x.nx (bal (Below.refl _ _) (.cells #[.int .i64 V9, .slice A9 k9 c9] 24))
  replace h_s := h_s.nx (bal (Below.refl _ _) (.cells #[.int .i64 V9, .slice A9 k9 c9] 24))
  replace h_t := h_t.nx (bal (Below.refl _ _) (.cells #[.int .i64 V9, .slice A9 k9 c9] 24))
  replace h_p := h_p.nx (bal (Below.refl _ _) (.cells #[.int .i64 V9, .slice A9 k9 c9] 24))
  replace h_q := h_q.nx (bal (Below.refl _ _) (.cells #[.int .i64 V9, .slice A9 k9 c9] 24))
  replace hB := bal hB (.cells #[.int .i64 V9, .slice A9 k9 c9] 24)
  clear rs9
  go_wp2_with fail
  generalize w9.alloc (.cells #[.int .i64 V9, .slice A9 k9 c9] 24) = w9m at *
  generalize w9.heap.size = gw9 at *
  refine ((HI.out _ h_c.v h_a.v h_b.v).2).mono ?_
  rintro e w10 ⟨V10, A10, k10, c10, rfl, rs10, hb10⟩
  clear p_a1 p_a2 p_a3 p_b1 p_b2 p_b3 p_c1 p_c2 p_c3 p_x1 p_x2 p_x3 p_x4 p_s1 p_s2 p_s3 p_t1 p_t2 p_t3 p_p1 p_p2 p_p3 p_q1 p_q2 p_q3
  replace h_a := h_a.nx hb10
  replace h_b := h_b.nx hb10
  replace h_c := h_c.nx hb10
  replace h_x := h_x.nx hb10
  replace h_s := h_s.nx hb10
  replace h_t := h_t.nx hb10
  replace h_p := h_p.nx hb10
  replace h_q := h_q.nx hb10
  replace h_y := h_y.nx hb10
  replace hB := bnx hB hb10
  obtain ⟨p_a1, p_a2, p_a3⟩ := h_a.parts
  obtain ⟨p_b1, p_b2, p_b3⟩ := h_b.parts
  obtain ⟨p_c1, p_c2, p_c3⟩ := h_c.parts
  obtain ⟨p_x1, p_x2, p_x3, p_x4⟩ := h_x.parts
  obtain ⟨p_s1, p_s2, p_s3⟩ := h_s.parts
  obtain ⟨p_t1, p_t2, p_t3⟩ := h_t.parts
  obtain ⟨p_p1, p_p2, p_p3⟩ := h_p.parts
  obtain ⟨p_q1, p_q2, p_q3⟩ := h_q.parts
  obtain ⟨p_y1, p_y2, p_y3⟩ := h_y.parts
  clear hb10
  have h_z := Vx.new rs10
  replace h_a := h_a.nx (bal (Below.refl _ _) (.cells #[.int .i64 V10, .slice A10 k10 c10] 24))
  replace h_b := h_b.nx (bal (Below.refl _ _) (.cells #[.int .i64 V10, .slice A10 k10 c10] 24))
  replace h_c := h_c.nx (bal (Below.refl _ _) (.cells #[.int .i64 V10, .slice A10 k10 c10] 24))
  replace h_x := h_x.nx (bal (Below.refl _ _) (.cells #[.int .i64 V10, .slice A10 k10 c10] 24))
  replace h_s := h_s.nx (bal (Below.refl _ _) (.cells #[.int .i64 V10, .slice A10 k10 c10] 24))
  replace h_t := h_t.nx (bal (Below.refl _ _) (.cells #[.int .i64 V10, .slice A10 k10 c10] 24))
  replace h_p := h_p.nx (bal (Below.refl _ _) (.cells #[.int .i64 V10, .slice A10 k10 c10] 24))
  replace h_q := h_q.nx (bal (Below.refl _ _) (.cells #[.int .i64 V10, .slice A10 k10 c10] 24))
  replace h_y := h_y.nx (bal (Below.refl _ _) (.cells #[.int .i64 V10, .slice A10 k10 c10] 24))
  replace hB := bal hB (.cells #[.int .i64 V10, .slice A10 k10 c10] 24)
  clear rs10
  go_wp2_with fail
  generalize w10.alloc (.cells #[.int .i64 V10, .slice A10 k10 c10] 24) = w10m at *
  generalize w10.heap.size = gw10 at *
  refine (same_rs h_s.v h_t.v).mono ?_
  rintro e w11 ⟨rfl, hb11⟩
  clear p_a1 p_a2 p_a3 p_b1 p_b2 p_b3 p_c1 p_c2 p_c3 p_x1 p_x2 p_x3 p_x4 p_s1 p_s2 p_s3 p_t1 p_t2 p_t3 p_p1 p_p2 p_p3 p_q1 p_q2 p_q3 p_y1 p_y2 p_y3
  replace h_a := h_a.nx hb11
  replace h_b := h_b.nx hb11
  replace h_c := h_c.nx hb11
  replace h_x := h_x.nx hb11
  replace h_s := h_s.nx hb11
  replace h_t := h_t.nx hb11
  replace h_p := h_p.nx hb11
  replace h_q := h_q.nx hb11
  replace h_y := h_y.nx hb11
  replace h_z := h_z.nx hb11
  replace hB := bnx hB hb11
  obtain ⟨p_a1, p_a2, p_a3⟩ := h_a.parts
  obtain ⟨p_b1, p_b2, p_b3⟩ := h_b.parts
  obtain ⟨p_c1, p_c2, p_c3⟩ := h_c.parts
  obtain ⟨p_x1, p_x2, p_x3, p_x4⟩ := h_x.parts
  obtain ⟨p_s1, p_s2, p_s3⟩ := h_s.parts
  obtain ⟨p_t1, p_t2, p_t3⟩ := h_t.parts
  obtain ⟨p_p1, p_p2, p_p3⟩ := h_p.parts
  obtain ⟨p_q1, p_q2, p_q3⟩ := h_q.parts
  obtain ⟨p_y1, p_y2, p_y3⟩ := h_y.parts
  obtain ⟨p_z1, p_z2, p_z3⟩ := h_z.parts
  clear hb11
  go_wp2_with fail
  refine (same_rs h_p.v h_q.v).mono ?_
  rintro e w12 ⟨rfl, hb12⟩
  clear p_a1 p_a2 p_a3 p_b1 p_b2 p_b3 p_c1 p_c2 p_c3 p_x1 p_x2 p_x3 p_x4 p_s1 p_s2 p_s3 p_t1 p_t2 p_t3 p_p1 p_p2 p_p3 p_q1 p_q2 p_q3 p_y1 p_y2 p_y3 p_z1 p_z2 p_z3
  replace h_a := h_a.nx hb12
  replace h_b := h_b.nx hb12
  replace h_c := h_c.nx hb12
  replace h_x := h_x.nx hb12
  replace h_s := h_s.nx hb12
  replace h_t := h_t.nx hb12
  replace h_p := h_p.nx hb12
  replace h_q := h_q.nx hb12
  replace h_y := h_y.nx hb12
  replace h_z := h_z.nx hb12
  replace hB := bnx hB hb12
  obtain ⟨p_a1, p_a2, p_a3⟩ := h_a.parts
  obtain ⟨p_b1, p_b2, p_b3⟩ := h_b.parts
  obtain ⟨p_c1, p_c2, p_c3⟩ := h_c.parts
  obtain ⟨p_x1, p_x2, p_x3, p_x4⟩ := h_x.parts
  obtain ⟨p_s1, p_s2, p_s3⟩ := h_s.parts
  obtain ⟨p_t1, p_t2, p_t3⟩ := h_t.parts
  obtain ⟨p_p1, p_p2, p_p3⟩ := h_p.parts
  obtain ⟨p_q1, p_q2, p_q3⟩ := h_q.parts
  obtain ⟨p_y1, p_y2, p_y3⟩ := h_y.parts
  obtain ⟨p_z1, p_z2, p_z3⟩ := h_z.parts
  clear hb12
  go_wp2_with fail
  refine (same_rs h_y.v h_z.v).mono ?_
  rintro e w13 ⟨rfl, hb13⟩
  clear p_a1 p_a2 p_a3 p_b1 p_b2 p_b3 p_c1 p_c2 p_c3 p_x1 p_x2 p_x3 p_x4 p_s1 p_s2 p_s3 p_t1 p_t2 p_t3 p_p1 p_p2 p_p3 p_q1 p_q2 p_q3 p_y1 p_y2 p_y3 p_z1 p_z2 p_z3
  replace h_a := h_a.nx hb13
  replace h_b := h_b.nx hb13
  replace h_c := h_c.nx hb13
  replace h_x := h_x.nx hb13
  replace h_s := h_s.nx hb13
  replace h_t := h_t.nx hb13
  replace h_p := h_p.nx hb13
  replace h_q := h_q.nx hb13
  replace h_y := h_y.nx hb13
  replace h_z := h_z.nx hb13
  replace hB := bnx hB hb13
  obtain ⟨p_a1, p_a2, p_a3⟩ := h_a.parts
  obtain ⟨p_b1, p_b2, p_b3⟩ := h_b.parts
  obtain ⟨p_c1, p_c2, p_c3⟩ := h_c.parts
  obtain ⟨p_x1, p_x2, p_x3, p_x4⟩ := h_x.parts
  obtain ⟨p_s1, p_s2, p_s3⟩ := h_s.parts
  obtain ⟨p_t1, p_t2, p_t3⟩ := h_t.parts
  obtain ⟨p_p1, p_p2, p_p3⟩ := h_p.parts
  obtain ⟨p_q1, p_q2, p_q3⟩ := h_q.parts
  obtain ⟨p_y1, p_y2, p_y3⟩ := h_y.parts
  obtain ⟨p_z1, p_z2, p_z3⟩ := h_z.parts
  clear hb13
  go_wp2
  go_ret
  exact ⟨rfl, hB⟩
end Go.Proofs.Ytnnoflohekmnbaa
