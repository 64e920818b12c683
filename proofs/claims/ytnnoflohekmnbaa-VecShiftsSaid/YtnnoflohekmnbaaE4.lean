/-
  VecBits: the early outs; boxes
-/
import Derived.Test.YtnnoflohekmnbaaProg
import Derived.WalkKit
import Derived.WalkSpells
import Derived.WalkLawsBesides
import Derived.LoopN
import Derived.IntWalk
import Derived.Lib.Hide
import Derived.Test.YtnnoflohekmnbaaD3
import Derived.Laws.BitsAllLaws
import Derived.Laws.Externs
import Derived.BigQuiet
import Derived.BigRegion
import Derived.Deep.QuietTactic
import Derived.Deep.RegionWith
import Derived.Deep.RegionHeld3
import Derived.StillTailTactics
import Derived.RegionTactic
import Derived.ChangeAlike
import Derived.Deep.DeepCutAuto
set_option linter.unusedVariables false
namespace Go.Proofs.Ytnnoflohekmnbaa
open Go.RowKit
theorem refRight_b {A : Option Addr} {c : Nat} {l : List Nat} {W : Int} {w0 w : World} {b : Bool} (h : R64 w0 w0.heap.size A l) (hB : Below w0.heap.size w0 w) (hb : rightB W l = b) : Calls Try.prog 14 #[.agg #[.int .i64 W, .slice A l.length c]] w (RetV w (.bool b)) :=
  hb ▸ refRight_any A c l W w ((h.below hB).mono hB.size)
/-- Two values in a box. -/
structure Bx (wr : World) (g : Nat) (x0 x1 : Value) : Prop where
  d : Duo wr g x0 x1
theorem Bx.nx {wr w1 : World} {g : Nat} {x0 x1 : Value} (h : Bx wr g x0 x1) (hb : Below wr.heap.size wr w1) : Bx w1 g x0 x1 := ⟨h.d.below hb (World.block_lt_of_cell? wr _ h.d.1)⟩
theorem Bx.parts {wr : World} {g : Nat} {x0 x1 : Value} (h : Bx wr g x0 x1) : wr.cell? ⟨g, 0, none⟩ = some x0 ∧ wr.cell? ⟨g, 1, none⟩ = some x1 ∧ g < wr.heap.size := ⟨h.d.1, h.d.2.1, World.block_lt_of_cell? wr _ h.d.1⟩
theorem Bx.new (w : World) (x0 x1 : Value) : Bx (w.alloc (.cells #[x0, x1] 24)) w.heap.size x0 x1 := ⟨by refine ⟨?_, ?_, ?_, ?_⟩ <;> go_simp⟩
theorem box1 (w : World) (x0 x1 : Value) : Bx (w.alloc (.cells #[x0, x1] 24)) w.heap.size x0 x1 ∧ Below w.heap.size w (w.alloc (.cells #[x0, x1] 24)) := ⟨Bx.new _ _ _, bal (Below.refl _ _) _⟩
theorem box2 (w : World) (x0 x1 y0 y1 : Value) : Bx ((w.alloc (.cells #[x0, x1] 24)).alloc (.cells #[y0, y1] 24)) w.heap.size x0 x1 ∧ Bx ((w.alloc (.cells #[x0, x1] 24)).alloc (.cells #[y0, y1] 24)) (w.heap.size + 1) y0 y1 ∧ Below w.heap.size w ((w.alloc (.cells #[x0, x1] 24)).alloc (.cells #[y0, y1] 24)) := by
  refine ⟨(Bx.new w x0 x1).nx (bal (Below.refl _ _) _), ?_, bal (bal (Below.refl _ _) _) _⟩
  have := Bx.new (w.alloc (.cells #[x0, x1] 24)) y0 y1
  simpa using this
theorem box3 (w : World) (x0 x1 y0 y1 z0 z1 : Value) : Bx (((w.alloc (.cells #[x0, x1] 24)).alloc (.cells #[y0, y1] 24)).alloc (.cells #[z0, z1] 24)) w.heap.size x0 x1 ∧ Bx (((w.alloc (.cells #[x0, x1] 24)).alloc (.cells #[y0, y1] 24)).alloc (.cells #[z0, z1] 24)) (w.heap.size + 1) y0 y1 ∧ Bx (((w.alloc (.cells #[x0, x1] 24)).alloc (.cells #[y0, y1] 24)).alloc (.cells #[z0, z1] 24)) (w.heap.size + 1 + 1) z0 z1 ∧ Below w.heap.size w (((w.alloc (.cells #[x0, x1] 24)).alloc (.cells #[y0, y1] 24)).alloc (.cells #[z0, z1] 24)) := by
  refine ⟨(box2 w x0 x1 y0 y1).1.nx (bal (Below.refl _ _) _), (box2 w x0 x1 y0 y1).2.1.nx (bal (Below.refl _ _) _), ?_, bal (bal (bal (Below.refl _ _) _) _) _⟩
  have := Bx.new ((w.alloc (.cells #[x0, x1] 24)).alloc (.cells #[y0, y1] 24)) z0 z1
  simpa using this
set_option maxHeartbeats 1000000 in
theorem bits_o1 (Aa : Option Addr) (ca : Nat) (la : List Nat) (Wa : Int) (Ab : Option Addr) (cb : Nat) (lb : List Nat) (Wb : Int) (i : Int) (w : World) (ha : R64 w w.heap.size Aa la) (hra : rightB Wa la = false)  :
    Calls Try.prog 7 #[.agg #[.int .i64 Wa, .slice Aa la.length ca], .agg #[.int .i64 Wb, .slice Ab lb.length cb], .int .i64 i] w (RetV w (.bool true)) := by
  have hB0 := Lib.hid (box2 w (.int .i64 Wa) (.slice Aa la.length ca) (.int .i64 Wb) (.slice Ab lb.length cb))
  have Ha := Lib.hid ha
  have Ra := Lib.hid hra
  clear ha hra
  go_enter Try.func7, Try.ntmps7
  go_wp2_with fail
  obtain ⟨da, db, hB⟩ := hB0.out
  clear hB0
  generalize ((w.alloc (.cells #[.int .i64 Wa, .slice Aa la.length ca] 24)).alloc (.cells #[.int .i64 Wb, .slice Ab lb.length cb] 24)) = w0 at *
  refine (shown_any _).mono ?_
  rintro e w1 ⟨rfl, hb1⟩
  replace da := da.nx hb1
  replace db := db.nx hb1
  replace hB := bnx hB hb1
  clear hb1
  obtain ⟨pa1, pa2, pa3⟩ := da.parts
  obtain ⟨pb1, pb2, pb3⟩ := db.parts
  go_wp2_with fail
  refine (refRight_b Ha.out hB Ra.out).mono ?_
  rintro e w2 ⟨rfl, hb2⟩
  clear pa1 pa2 pa3 pb1 pb2 pb3
  replace da := da.nx hb2
  replace db := db.nx hb2
  replace hB := bnx hB hb2
  clear hb2
  obtain ⟨pa1, pa2, pa3⟩ := da.parts
  obtain ⟨pb1, pb2, pb3⟩ := db.parts
  go_wp2
  go_ret
  exact ⟨rfl, hB⟩
set_option maxHeartbeats 1000000 in
theorem bits_o2 (Aa : Option Addr) (ca : Nat) (la : List Nat) (Wa : Int) (Ab : Option Addr) (cb : Nat) (lb : List Nat) (Wb : Int) (i : Int) (w : World) (ha : R64 w w.heap.size Aa la) (hra : rightB Wa la = true) (hb : R64 w w.heap.size Ab lb) (hrb : rightB Wb lb = false)  :
    Calls Try.prog 7 #[.agg #[.int .i64 Wa, .slice Aa la.length ca], .agg #[.int .i64 Wb, .slice Ab lb.length cb], .int .i64 i] w (RetV w (.bool true)) := by
  have hB0 := Lib.hid (box2 w (.int .i64 Wa) (.slice Aa la.length ca) (.int .i64 Wb) (.slice Ab lb.length cb))
  have Ha := Lib.hid ha
  have Ra := Lib.hid hra
  clear ha hra
  have Hb := Lib.hid hb
  have Rb := Lib.hid hrb
  clear hb hrb
  go_enter Try.func7, Try.ntmps7
  go_wp2_with fail
  obtain ⟨da, db, hB⟩ := hB0.out
  clear hB0
  generalize ((w.alloc (.cells #[.int .i64 Wa, .slice Aa la.length ca] 24)).alloc (.cells #[.int .i64 Wb, .slice Ab lb.length cb] 24)) = w0 at *
  refine (shown_any _).mono ?_
  rintro e w1 ⟨rfl, hb1⟩
  replace da := da.nx hb1
  replace db := db.nx hb1
  replace hB := bnx hB hb1
  clear hb1
  obtain ⟨pa1, pa2, pa3⟩ := da.parts
  obtain ⟨pb1, pb2, pb3⟩ := db.parts
  go_wp2_with fail
  refine (refRight_b Ha.out hB Ra.out).mono ?_
  rintro e w2 ⟨rfl, hb2⟩
  clear pa1 pa2 pa3 pb1 pb2 pb3
  replace da := da.nx hb2
  replace db := db.nx hb2
  replace hB := bnx hB hb2
  clear hb2
  obtain ⟨pa1, pa2, pa3⟩ := da.parts
  obtain ⟨pb1, pb2, pb3⟩ := db.parts
  go_wp2_with fail
  refine (refRight_b Hb.out hB Rb.out).mono ?_
  rintro e w3 ⟨rfl, hb3⟩
  clear pa1 pa2 pa3 pb1 pb2 pb3
  replace da := da.nx hb3
  replace db := db.nx hb3
  replace hB := bnx hB hb3
  clear hb3
  obtain ⟨pa1, pa2, pa3⟩ := da.parts
  obtain ⟨pb1, pb2, pb3⟩ := db.parts
  go_wp2
  go_ret
  exact ⟨rfl, hB⟩
set_option maxHeartbeats 1000000 in
theorem bits_o3 (Aa : Option Addr) (ca : Nat) (la : List Nat) (Wa : Int) (Ab : Option Addr) (cb : Nat) (lb : List Nat) (Wb : Int) (i : Int) (w : World) (ha : R64 w w.heap.size Aa la) (hra : rightB Wa la = true) (hb : R64 w w.heap.size Ab lb) (hrb : rightB Wb lb = true) (e1 : (Wa != Wb) = true) :
    Calls Try.prog 7 #[.agg #[.int .i64 Wa, .slice Aa la.length ca], .agg #[.int .i64 Wb, .slice Ab lb.length cb], .int .i64 i] w (RetV w (.bool true)) := by
  have hB0 := Lib.hid (box2 w (.int .i64 Wa) (.slice Aa la.length ca) (.int .i64 Wb) (.slice Ab lb.length cb))
  have Ha := Lib.hid ha
  have Ra := Lib.hid hra
  clear ha hra
  have Hb := Lib.hid hb
  have Rb := Lib.hid hrb
  clear hb hrb
  go_enter Try.func7, Try.ntmps7
  go_wp2_with fail
  obtain ⟨da, db, hB⟩ := hB0.out
  clear hB0
  generalize ((w.alloc (.cells #[.int .i64 Wa, .slice Aa la.length ca] 24)).alloc (.cells #[.int .i64 Wb, .slice Ab lb.length cb] 24)) = w0 at *
  refine (shown_any _).mono ?_
  rintro e w1 ⟨rfl, hb1⟩
  replace da := da.nx hb1
  replace db := db.nx hb1
  replace hB := bnx hB hb1
  clear hb1
  obtain ⟨pa1, pa2, pa3⟩ := da.parts
  obtain ⟨pb1, pb2, pb3⟩ := db.parts
  go_wp2_with fail
  refine (refRight_b Ha.out hB Ra.out).mono ?_
  rintro e w2 ⟨rfl, hb2⟩
  clear pa1 pa2 pa3 pb1 pb2 pb3
  replace da := da.nx hb2
  replace db := db.nx hb2
  replace hB := bnx hB hb2
  clear hb2
  obtain ⟨pa1, pa2, pa3⟩ := da.parts
  obtain ⟨pb1, pb2, pb3⟩ := db.parts
  go_wp2_with fail
  refine (refRight_b Hb.out hB Rb.out).mono ?_
  rintro e w3 ⟨rfl, hb3⟩
  clear pa1 pa2 pa3 pb1 pb2 pb3
  replace da := da.nx hb3
  replace db := db.nx hb3
  replace hB := bnx hB hb3
  clear hb3
  obtain ⟨pa1, pa2, pa3⟩ := da.parts
  obtain ⟨pb1, pb2, pb3⟩ := db.parts
  go_wp2
  go_ret
  exact ⟨rfl, hB⟩
set_option maxHeartbeats 1000000 in
theorem bits_o4 (Aa : Option Addr) (ca : Nat) (la : List Nat) (Wa : Int) (Ab : Option Addr) (cb : Nat) (lb : List Nat) (Wb : Int) (i : Int) (w : World) (ha : R64 w w.heap.size Aa la) (hra : rightB Wa la = true) (hb : R64 w w.heap.size Ab lb) (hrb : rightB Wb lb = true) (e1 : (Wa != Wb) = false) (e2 : decide (i < 0) = true) :
    Calls Try.prog 7 #[.agg #[.int .i64 Wa, .slice Aa la.length ca], .agg #[.int .i64 Wb, .slice Ab lb.length cb], .int .i64 i] w (RetV w (.bool true)) := by
  have hB0 := Lib.hid (box2 w (.int .i64 Wa) (.slice Aa la.length ca) (.int .i64 Wb) (.slice Ab lb.length cb))
  have Ha := Lib.hid ha
  have Ra := Lib.hid hra
  clear ha hra
  have Hb := Lib.hid hb
  have Rb := Lib.hid hrb
  clear hb hrb
  go_enter Try.func7, Try.ntmps7
  go_wp2_with fail
  obtain ⟨da, db, hB⟩ := hB0.out
  clear hB0
  generalize ((w.alloc (.cells #[.int .i64 Wa, .slice Aa la.length ca] 24)).alloc (.cells #[.int .i64 Wb, .slice Ab lb.length cb] 24)) = w0 at *
  refine (shown_any _).mono ?_
  rintro e w1 ⟨rfl, hb1⟩
  replace da := da.nx hb1
  replace db := db.nx hb1
  replace hB := bnx hB hb1
  clear hb1
  obtain ⟨pa1, pa2, pa3⟩ := da.parts
  obtain ⟨pb1, pb2, pb3⟩ := db.parts
  go_wp2_with fail
  refine (refRight_b Ha.out hB Ra.out).mono ?_
  rintro e w2 ⟨rfl, hb2⟩
  clear pa1 pa2 pa3 pb1 pb2 pb3
  replace da := da.nx hb2
  replace db := db.nx hb2
  replace hB := bnx hB hb2
  clear hb2
  obtain ⟨pa1, pa2, pa3⟩ := da.parts
  obtain ⟨pb1, pb2, pb3⟩ := db.parts
  go_wp2_with fail
  refine (refRight_b Hb.out hB Rb.out).mono ?_
  rintro e w3 ⟨rfl, hb3⟩
  clear pa1 pa2 pa3 pb1 pb2 pb3
  replace da := da.nx hb3
  replace db := db.nx hb3
  replace hB := bnx hB hb3
  clear hb3
  obtain ⟨pa1, pa2, pa3⟩ := da.parts
  obtain ⟨pb1, pb2, pb3⟩ := db.parts
  go_wp2
  go_ret
  exact ⟨rfl, hB⟩
set_option maxHeartbeats 1000000 in
theorem bits_o5 (Aa : Option Addr) (ca : Nat) (la : List Nat) (Wa : Int) (Ab : Option Addr) (cb : Nat) (lb : List Nat) (Wb : Int) (i : Int) (w : World) (ha : R64 w w.heap.size Aa la) (hra : rightB Wa la = true) (hb : R64 w w.heap.size Ab lb) (hrb : rightB Wb lb = true) (e1 : (Wa != Wb) = false) (e2 : decide (i < 0) = false) (e3 : decide (Wa ≤ i) = true) :
    Calls Try.prog 7 #[.agg #[.int .i64 Wa, .slice Aa la.length ca], .agg #[.int .i64 Wb, .slice Ab lb.length cb], .int .i64 i] w (RetV w (.bool true)) := by
  have hB0 := Lib.hid (box2 w (.int .i64 Wa) (.slice Aa la.length ca) (.int .i64 Wb) (.slice Ab lb.length cb))
  have Ha := Lib.hid ha
  have Ra := Lib.hid hra
  clear ha hra
  have Hb := Lib.hid hb
  have Rb := Lib.hid hrb
  clear hb hrb
  go_enter Try.func7, Try.ntmps7
  go_wp2_with fail
  obtain ⟨da, db, hB⟩ := hB0.out
  clear hB0
  generalize ((w.alloc (.cells #[.int .i64 Wa, .slice Aa la.length ca] 24)).alloc (.cells #[.int .i64 Wb, .slice Ab lb.length cb] 24)) = w0 at *
  refine (shown_any _).mono ?_
  rintro e w1 ⟨rfl, hb1⟩
  replace da := da.nx hb1
  replace db := db.nx hb1
  replace hB := bnx hB hb1
  clear hb1
  obtain ⟨pa1, pa2, pa3⟩ := da.parts
  obtain ⟨pb1, pb2, pb3⟩ := db.parts
  go_wp2_with fail
  refine (refRight_b Ha.out hB Ra.out).mono ?_
  rintro e w2 ⟨rfl, hb2⟩
  clear pa1 pa2 pa3 pb1 pb2 pb3
  replace da := da.nx hb2
  replace db := db.nx hb2
  replace hB := bnx hB hb2
  clear hb2
  obtain ⟨pa1, pa2, pa3⟩ := da.parts
  obtain ⟨pb1, pb2, pb3⟩ := db.parts
  go_wp2_with fail
  refine (refRight_b Hb.out hB Rb.out).mono ?_
  rintro e w3 ⟨rfl, hb3⟩
  clear pa1 pa2 pa3 pb1 pb2 pb3
  replace da := da.nx hb3
  replace db := db.nx hb3
  replace hB := bnx hB hb3
  clear hb3
  obtain ⟨pa1, pa2, pa3⟩ := da.parts
  obtain ⟨pb1, pb2, pb3⟩ := db.parts
  go_wp2
  go_ret
  exact ⟨rfl, hB⟩
end Go.Proofs.Ytnnoflohekmnbaa
