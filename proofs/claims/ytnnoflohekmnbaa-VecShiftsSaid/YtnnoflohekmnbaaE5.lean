/-
  VecRing, VecShifts: the early outs
-/
import Derived.Test.YtnnoflohekmnbaaProg
import Derived.WalkKit
import Derived.WalkSpells
import Derived.WalkLawsBesides
import Derived.LoopN
import Derived.IntWalk
import Derived.Lib.Hide
import Derived.Test.YtnnoflohekmnbaaE4
import Derived.Laws.BitsAllLaws
import Derived.Laws.Externs
import Derived.BigQuiet
import Derived.BigRegion
import Derived.Deep.QuietTactic
import Derived.Deep.RegionWith
import Derived.Deep.RegionHeld3
import Derived.StillTailTactics
import Derived.RegionTactic
import Derived.ChangeAlike
import Derived.Deep.DeepCutAuto
set_option linter.unusedVariables false
namespace Go.Proofs.Ytnnoflohekmnbaa
open Go.RowKit
set_option maxHeartbeats 1000000 in
theorem ring_o1 (Aa : Option Addr) (ca : Nat) (la : List Nat) (Wa : Int) (Ab : Option Addr) (cb : Nat) (lb : List Nat) (Wb : Int) (Ac : Option Addr) (cc : Nat) (lc : List Nat) (Wc : Int)  (w : World) (ha : R64 w w.heap.size Aa la) (hra : rightB Wa la = false)  :
    Calls Try.prog 6 #[.agg #[.int .i64 Wa, .slice Aa la.length ca], .agg #[.int .i64 Wb, .slice Ab lb.length cb], .agg #[.int .i64 Wc, .slice Ac lc.length cc]] w (RetV w (.bool true)) := by
  have hB0 := Lib.hid (box3 w (.int .i64 Wa) (.slice Aa la.length ca) (.int .i64 Wb) (.slice Ab lb.length cb) (.int .i64 Wc) (.slice Ac lc.length cc))
  have Ha := Lib.hid ha
  have Ra := Lib.hid hra
  clear ha hra
  go_enter Try.func6, Try.ntmps6
  go_wp2_with fail
  obtain ⟨da, db, dc, hB⟩ := hB0.out
  clear hB0
  generalize (((w.alloc (.cells #[.int .i64 Wa, .slice Aa la.length ca] 24)).alloc (.cells #[.int .i64 Wb, .slice Ab lb.length cb] 24)).alloc (.cells #[.int .i64 Wc, .slice Ac lc.length cc] 24)) = w0 at *
  refine (shown_any _).mono ?_
  rintro e w1 ⟨rfl, hb1⟩
  replace da := da.nx hb1
  replace db := db.nx hb1
  replace dc := dc.nx hb1
  replace hB := bnx hB hb1
  clear hb1
  obtain ⟨pa1, pa2, pa3⟩ := da.parts
  obtain ⟨pb1, pb2, pb3⟩ := db.parts
  obtain ⟨pc1, pc2, pc3⟩ := dc.parts
  go_wp2_with fail
  refine (refRight_b Ha.out hB Ra.out).mono ?_
  rintro e w2 ⟨rfl, hb2⟩
  clear pa1 pa2 pa3 pb1 pb2 pb3 pc1 pc2 pc3
  replace da := da.nx hb2
  replace db := db.nx hb2
  replace dc := dc.nx hb2
  replace hB := bnx hB hb2
  clear hb2
  obtain ⟨pa1, pa2, pa3⟩ := da.parts
  obtain ⟨pb1, pb2, pb3⟩ := db.parts
  obtain ⟨pc1, pc2, pc3⟩ := dc.parts
  go_wp2
  go_ret
  exact ⟨rfl, hB⟩
set_option maxHeartbeats 1000000 in
theorem ring_o2 (Aa : Option Addr) (ca : Nat) (la : List Nat) (Wa : Int) (Ab : Option Addr) (cb : Nat) (lb : List Nat) (Wb : Int) (Ac : Option Addr) (cc : Nat) (lc : List Nat) (Wc : Int)  (w : World) (ha : R64 w w.heap.size Aa la) (hra : rightB Wa la = true) (hb : R64 w w.heap.size Ab lb) (hrb : rightB Wb lb = false)  :
    Calls Try.prog 6 #[.agg #[.int .i64 Wa, .slice Aa la.length ca], .agg #[.int .i64 Wb, .slice Ab lb.length cb], .agg #[.int .i64 Wc, .slice Ac lc.length cc]] w (RetV w (.bool true)) := by
  have hB0 := Lib.hid (box3 w (.int .i64 Wa) (.slice Aa la.length ca) (.int .i64 Wb) (.slice Ab lb.length cb) (.int .i64 Wc) (.slice Ac lc.length cc))
  have Ha := Lib.hid ha
  have Ra := Lib.hid hra
  clear ha hra
  have Hb := Lib.hid hb
  have Rb := Lib.hid hrb
  clear hb hrb
  go_enter Try.func6, Try.ntmps6
  go_wp2_with fail
  obtain ⟨da, db, dc, hB⟩ := hB0.out
  clear hB0
  generalize (((w.alloc (.cells #[.int .i64 Wa, .slice Aa la.length ca] 24)).alloc (.cells #[.int .i64 Wb, .slice Ab lb.length cb] 24)).alloc (.cells #[.int .i64 Wc, .slice Ac lc.length cc] 24)) = w0 at *
  refine (shown_any _).mono ?_
  rintro e w1 ⟨rfl, hb1⟩
  replace da := da.nx hb1
  replace db := db.nx hb1
  replace dc := dc.nx hb1
  replace hB := bnx hB hb1
  clear hb1
  obtain ⟨pa1, pa2, pa3⟩ := da.parts
  obtain ⟨pb1, pb2, pb3⟩ := db.parts
  obtain ⟨pc1, pc2, pc3⟩ := dc.parts
  go_wp2_with fail
  refine (refRight_b Ha.out hB Ra.out).mono ?_
  rintro e w2 ⟨rfl, hb2⟩
  clear pa1 pa2 pa3 pb1 pb2 pb3 pc1 pc2 pc3
  replace da := da.nx hb2
  replace db := db.nx hb2
  replace dc := dc.nx hb2
  replace hB := bnx hB hb2
  clear hb2
  obtain ⟨pa1, pa2, pa3⟩ := da.parts
  obtain ⟨pb1, pb2, pb3⟩ := db.parts
  obtain ⟨pc1, pc2, pc3⟩ := dc.parts
  go_wp2_with fail
  refine (refRight_b Hb.out hB Rb.out).mono ?_
  rintro e w3 ⟨rfl, hb3⟩
  clear pa1 pa2 pa3 pb1 pb2 pb3 pc1 pc2 pc3
  replace da := da.nx hb3
  replace db := db.nx hb3
  replace dc := dc.nx hb3
  replace hB := bnx hB hb3
  clear hb3
  obtain ⟨pa1, pa2, pa3⟩ := da.parts
  obtain ⟨pb1, pb2, pb3⟩ := db.parts
  obtain ⟨pc1, pc2, pc3⟩ := dc.parts
  go_wp2
  go_ret
  exact ⟨rfl, hB⟩
set_option maxHeartbeats 1000000 in
theorem ring_o3 (Aa : Option Addr) (ca : Nat) (la : List Nat) (Wa : Int) (Ab : Option Addr) (cb : Nat) (lb : List Nat) (Wb : Int) (Ac : Option Addr) (cc : Nat) (lc : List Nat) (Wc : Int)  (w : World) (ha : R64 w w.heap.size Aa la) (hra : rightB Wa la = true) (hb : R64 w w.heap.size Ab lb) (hrb : rightB Wb lb = true) (hc : R64 w w.heap.size Ac lc) (hrc : rightB Wc lc = false)  :
    Calls Try.prog 6 #[.agg #[.int .i64 Wa, .slice Aa la.length ca], .agg #[.int .i64 Wb, .slice Ab lb.length cb], .agg #[.int .i64 Wc, .slice Ac lc.length cc]] w (RetV w (.bool true)) := by
  have hB0 := Lib.hid (box3 w (.int .i64 Wa) (.slice Aa la.length ca) (.int .i64 Wb) (.slice Ab lb.length cb) (.int .i64 Wc) (.slice Ac lc.length cc))
  have Ha := Lib.hid ha
  have Ra := Lib.hid hra
  clear ha hra
  have Hb := Lib.hid hb
  have Rb := Lib.hid hrb
  clear hb hrb
  have Hc := Lib.hid hc
  have Rc := Lib.hid hrc
  clear hc hrc
  go_enter Try.func6, Try.ntmps6
  go_wp2_with fail
  obtain ⟨da, db, dc, hB⟩ := hB0.out
  clear hB0
  generalize (((w.alloc (.cells #[.int .i64 Wa, .slice Aa la.length ca] 24)).alloc (.cells #[.int .i64 Wb, .slice Ab lb.length cb] 24)).alloc (.cells #[.int .i64 Wc, .slice Ac lc.length cc] 24)) = w0 at *
  refine (shown_any _).mono ?_
  rintro e w1 ⟨rfl, hb1⟩
  replace da := da.nx hb1
  replace db := db.nx hb1
  replace dc := dc.nx hb1
  replace hB := bnx hB hb1
  clear hb1
  obtain ⟨pa1, pa2, pa3⟩ := da.parts
  obtain ⟨pb1, pb2, pb3⟩ := db.parts
  obtain ⟨pc1, pc2, pc3⟩ := dc.parts
  go_wp2_with fail
  refine (refRight_b Ha.out hB Ra.out).mono ?_
  rintro e w2 ⟨rfl, hb2⟩
  clear pa1 pa2 pa3 pb1 pb2 pb3 pc1 pc2 pc3
  replace da := da.nx hb2
  replace db := db.nx hb2
  replace dc := dc.nx hb2
  replace hB := bnx hB hb2
  clear hb2
  obtain ⟨pa1, pa2, pa3⟩ := da.parts
  obtain ⟨pb1, pb2, pb3⟩ := db.parts
  obtain ⟨pc1, pc2, pc3⟩ := dc.parts
  go_wp2_with fail
  refine (refRight_b Hb.out hB Rb.out).mono ?_
  rintro e w3 ⟨rfl, hb3⟩
  clear pa1 pa2 pa3 pb1 pb2 pb3 pc1 pc2 pc3
  replace da := da.nx hb3
  replace db := db.nx hb3
  replace dc := dc.nx hb3
  replace hB := bnx hB hb3
  clear hb3
  obtain ⟨pa1, pa2, pa3⟩ := da.parts
  obtain ⟨pb1, pb2, pb3⟩ := db.parts
  obtain ⟨pc1, pc2, pc3⟩ := dc.parts
  go_wp2_with fail
  refine (refRight_b Hc.out hB Rc.out).mono ?_
  rintro e w4 ⟨rfl, hb4⟩
  clear pa1 pa2 pa3 pb1 pb2 pb3 pc1 pc2 pc3
  replace da := da.nx hb4
  replace db := db.nx hb4
  replace dc := dc.nx hb4
  replace hB := bnx hB hb4
  clear hb4
  obtain ⟨pa1, pa2, pa3⟩ := da.parts
  obtain ⟨pb1, pb2, pb3⟩ := db.parts
  obtain ⟨pc1, pc2, pc3⟩ := dc.parts
  go_wp2
  go_ret
  exact ⟨rfl, hB⟩
set_option maxHeartbeats 1000000 in
theorem ring_o4 (Aa : Option Addr) (ca : Nat) (la : List Nat) (Wa : Int) (Ab : Option Addr) (cb : Nat) (lb : List Nat) (Wb : Int) (Ac : Option Addr) (cc : Nat) (lc : List Nat) (Wc : Int)  (w : World) (ha : R64 w w.heap.size Aa la) (hra : rightB Wa la = true) (hb : R64 w w.heap.size Ab lb) (hrb : rightB Wb lb = true) (hc : R64 w w.heap.size Ac lc) (hrc : rightB Wc lc = true) (e1 : (Wa != Wb) = true) :
    Calls Try.prog 6 #[.agg #[.int .i64 Wa, .slice Aa la.length ca], .agg #[.int .i64 Wb, .slice Ab lb.length cb], .agg #[.int .i64 Wc, .slice Ac lc.length cc]] w (RetV w (.bool true)) := by
  have hB0 := Lib.hid (box3 w (.int .i64 Wa) (.slice Aa la.length ca) (.int .i64 Wb) (.slice Ab lb.length cb) (.int .i64 Wc) (.slice Ac lc.length cc))
  have Ha := Lib.hid ha
  have Ra := Lib.hid hra
  clear ha hra
  have Hb := Lib.hid hb
  have Rb := Lib.hid hrb
  clear hb hrb
  have Hc := Lib.hid hc
  have Rc := Lib.hid hrc
  clear hc hrc
  go_enter Try.func6, Try.ntmps6
  go_wp2_with fail
  obtain ⟨da, db, dc, hB⟩ := hB0.out
  clear hB0
  generalize (((w.alloc (.cells #[.int .i64 Wa, .slice Aa la.length ca] 24)).alloc (.cells #[.int .i64 Wb, .slice Ab lb.length cb] 24)).alloc (.cells #[.int .i64 Wc, .slice Ac lc.length cc] 24)) = w0 at *
  refine (shown_any _).mono ?_
  rintro e w1 ⟨rfl, hb1⟩
  replace da := da.nx hb1
  replace db := db.nx hb1
  replace dc := dc.nx hb1
  replace hB := bnx hB hb1
  clear hb1
  obtain ⟨pa1, pa2, pa3⟩ := da.parts
  obtain ⟨pb1, pb2, pb3⟩ := db.parts
  obtain ⟨pc1, pc2, pc3⟩ := dc.parts
  go_wp2_with fail
  refine (refRight_b Ha.out hB Ra.out).mono ?_
  rintro e w2 ⟨rfl, hb2⟩
  clear pa1 pa2 pa3 pb1 pb2 pb3 pc1 pc2 pc3
  replace da := da.nx hb2
  replace db := db.nx hb2
  replace dc := dc.nx hb2
  replace hB := bnx hB hb2
  clear hb2
  obtain ⟨pa1, pa2, pa3⟩ := da.parts
  obtain ⟨pb1, pb2, pb3⟩ := db.parts
  obtain ⟨pc1, pc2, pc3⟩ := dc.parts
  go_wp2_with fail
  refine (refRight_b Hb.out hB Rb.out).mono ?_
  rintro e w3 ⟨rfl, hb3⟩
  clear pa1 pa2 pa3 pb1 pb2 pb3 pc1 pc2 pc3
  replace da := da.nx hb3
  replace db := db.nx hb3
  replace dc := dc.nx hb3
  replace hB := bnx hB hb3
  clear hb3
  obtain ⟨pa1, pa2, pa3⟩ := da.parts
  obtain ⟨pb1, pb2, pb3⟩ := db.parts
  obtain ⟨pc1, pc2, pc3⟩ := dc.parts
  go_wp2_with fail
  refine (refRight_b Hc.out hB Rc.out).mono ?_
  rintro e w4 ⟨rfl, hb4⟩
  clear pa1 pa2 pa3 pb1 pb2 pb3 pc1 pc2 pc3
  replace da := da.nx hb4
  replace db := db.nx hb4
  replace dc := dc.nx hb4
  replace hB := bnx hB hb4
  clear hb4
  obtain ⟨pa1, pa2, pa3⟩ := da.parts
  obtain ⟨pb1, pb2, pb3⟩ := db.parts
  obtain ⟨pc1, pc2, pc3⟩ := dc.parts
  go_wp2
  go_ret
  exact ⟨rfl, hB⟩
set_option maxHeartbeats 1000000 in
theorem ring_o5 (Aa : Option Addr) (ca : Nat) (la : List Nat) (Wa : Int) (Ab : Option Addr) (cb : Nat) (lb : List Nat) (Wb : Int) (Ac : Option Addr) (cc : Nat) (lc : List Nat) (Wc : Int)  (w : World) (ha : R64 w w.heap.size Aa la) (hra : rightB Wa la = true) (hb : R64 w w.heap.size Ab lb) (hrb : rightB Wb lb = true) (hc : R64 w w.heap.size Ac lc) (hrc : rightB Wc lc = true) (e1 : (Wa != Wb) = false) (e2 : (Wb != Wc) = true) :
    Calls Try.prog 6 #[.agg #[.int .i64 Wa, .slice Aa la.length ca], .agg #[.int .i64 Wb, .slice Ab lb.length cb], .agg #[.int .i64 Wc, .slice Ac lc.length cc]] w (RetV w (.bool true)) := by
  have hB0 := Lib.hid (box3 w (.int .i64 Wa) (.slice Aa la.length ca) (.int .i64 Wb) (.slice Ab lb.length cb) (.int .i64 Wc) (.slice Ac lc.length cc))
  have Ha := Lib.hid ha
  have Ra := Lib.hid hra
  clear ha hra
  have Hb := Lib.hid hb
  have Rb := Lib.hid hrb
  clear hb hrb
  have Hc := Lib.hid hc
  have Rc := Lib.hid hrc
  clear hc hrc
  go_enter Try.func6, Try.ntmps6
  go_wp2_with fail
  obtain ⟨da, db, dc, hB⟩ := hB0.out
  clear hB0
  generalize (((w.alloc (.cells #[.int .i64 Wa, .slice Aa la.length ca] 24)).alloc (.cells #[.int .i64 Wb, .slice Ab lb.length cb] 24)).alloc (.cells #[.int .i64 Wc, .slice Ac lc.length cc] 24)) = w0 at *
  refine (shown_any _).mono ?_
  rintro e w1 ⟨rfl, hb1⟩
  replace da := da.nx hb1
  replace db := db.nx hb1
  replace dc := dc.nx hb1
  replace hB := bnx hB hb1
  clear hb1
  obtain ⟨pa1, pa2, pa3⟩ := da.parts
  obtain ⟨pb1, pb2, pb3⟩ := db.parts
  obtain ⟨pc1, pc2, pc3⟩ := dc.parts
  go_wp2_with fail
  refine (refRight_b Ha.out hB Ra.out).mono ?_
  rintro e w2 ⟨rfl, hb2⟩
  clear pa1 pa2 pa3 pb1 pb2 pb3 pc1 pc2 pc3
  replace da := da.nx hb2
  replace db := db.nx hb2
  replace dc := dc.nx hb2
  replace hB := bnx hB hb2
  clear hb2
  obtain ⟨pa1, pa2, pa3⟩ := da.parts
  obtain ⟨pb1, pb2, pb3⟩ := db.parts
  obtain ⟨pc1, pc2, pc3⟩ := dc.parts
  go_wp2_with fail
  refine (refRight_b Hb.out hB Rb.out).mono ?_
  rintro e w3 ⟨rfl, hb3⟩
  clear pa1 pa2 pa3 pb1 pb2 pb3 pc1 pc2 pc3
  replace da := da.nx hb3
  replace db := db.nx hb3
  replace dc := dc.nx hb3
  replace hB := bnx hB hb3
  clear hb3
  obtain ⟨pa1, pa2, pa3⟩ := da.parts
  obtain ⟨pb1, pb2, pb3⟩ := db.parts
  obtain ⟨pc1, pc2, pc3⟩ := dc.parts
  go_wp2_with fail
  refine (refRight_b Hc.out hB Rc.out).mono ?_
  rintro e w4 ⟨rfl, hb4⟩
  clear pa1 pa2 pa3 pb1 pb2 pb3 pc1 pc2 pc3
  replace da := da.nx hb4
  replace db := db.nx hb4
  replace dc := dc.nx hb4
  replace hB := bnx hB hb4
  clear hb4
  obtain ⟨pa1, pa2, pa3⟩ := da.parts
  obtain ⟨pb1, pb2, pb3⟩ := db.parts
  obtain ⟨pc1, pc2, pc3⟩ := dc.parts
  go_wp2
  go_ret
  exact ⟨rfl, hB⟩
set_option maxHeartbeats 1000000 in
theorem shifts_o1 (Aa : Option Addr) (ca : Nat) (la : List Nat) (Wa : Int) (n : Int) (w : World) (ha : R64 w w.heap.size Aa la) (hra : rightB Wa la = false)  :
    Calls Try.prog 8 #[.agg #[.int .i64 Wa, .slice Aa la.length ca], .int .u8 n] w (RetV w (.bool true)) := by
  have hB0 := Lib.hid (box1 w (.int .i64 Wa) (.slice Aa la.length ca))
  have Ha := Lib.hid ha
  have Ra := Lib.hid hra
  clear ha hra
  go_enter Try.func8, Try.ntmps8
  go_wp2_with fail
  obtain ⟨da, hB⟩ := hB0.out
  clear hB0
  generalize (w.alloc (.cells #[.int .i64 Wa, .slice Aa la.length ca] 24)) = w0 at *
  refine (shown_any _).mono ?_
  rintro e w1 ⟨rfl, hb1⟩
  replace da := da.nx hb1
  replace hB := bnx hB hb1
  clear hb1
  obtain ⟨pa1, pa2, pa3⟩ := da.parts
  go_wp2_with fail
  refine (refRight_b Ha.out hB Ra.out).mono ?_
  rintro e w2 ⟨rfl, hb2⟩
  clear pa1 pa2 pa3
  replace da := da.nx hb2
  replace hB := bnx hB hb2
  clear hb2
  obtain ⟨pa1, pa2, pa3⟩ := da.parts
  go_wp2
  go_ret
  exact ⟨rfl, hB⟩
set_option maxHeartbeats 1000000 in
theorem shifts_o2 (Aa : Option Addr) (ca : Nat) (la : List Nat) (Wa : Int) (n : Int) (w : World) (ha : R64 w w.heap.size Aa la) (hra : rightB Wa la = true) (e1 : decide (Wa < 2) = true) :
    Calls Try.prog 8 #[.agg #[.int .i64 Wa, .slice Aa la.length ca], .int .u8 n] w (RetV w (.bool true)) := by
  have hB0 := Lib.hid (box1 w (.int .i64 Wa) (.slice Aa la.length ca))
  have Ha := Lib.hid ha
  have Ra := Lib.hid hra
  clear ha hra
  go_enter Try.func8, Try.ntmps8
  go_wp2_with fail
  obtain ⟨da, hB⟩ := hB0.out
  clear hB0
  generalize (w.alloc (.cells #[.int .i64 Wa, .slice Aa la.length ca] 24)) = w0 at *
  refine (shown_any _).mono ?_
  rintro e w1 ⟨rfl, hb1⟩
  replace da := da.nx hb1
  replace hB := bnx hB hb1
  clear hb1
  obtain ⟨pa1, pa2, pa3⟩ := da.parts
  go_wp2_with fail
  refine (refRight_b Ha.out hB Ra.out).mono ?_
  rintro e w2 ⟨rfl, hb2⟩
  clear pa1 pa2 pa3
  replace da := da.nx hb2
  replace hB := bnx hB hb2
  clear hb2
  obtain ⟨pa1, pa2, pa3⟩ := da.parts
  go_wp2
  go_ret
  exact ⟨rfl, hB⟩
end Go.Proofs.Ytnnoflohekmnbaa
