/-
  VecParts: the early outs
-/
import Derived.Test.YtnnoflohekmnbaaProg
import Derived.WalkKit
import Derived.WalkSpells
import Derived.WalkLawsBesides
import Derived.LoopN
import Derived.IntWalk
import Derived.Lib.Hide
import Derived.Test.YtnnoflohekmnbaaE4
import Derived.Laws.BitsAllLaws
import Derived.Laws.Externs
import Derived.BigQuiet
import Derived.BigRegion
import Derived.Deep.QuietTactic
import Derived.Deep.RegionWith
import Derived.Deep.RegionHeld3
import Derived.StillTailTactics
import Derived.RegionTactic
import Derived.ChangeAlike
import Derived.Deep.DeepCutAuto
set_option linter.unusedVariables false
namespace Go.Proofs.Ytnnoflohekmnbaa
open Go.RowKit
theorem below_over {w w1 : World} {o : Obj} (h : Below (w.heap.size + 1) (w.alloc o) w1) : Below w.heap.size w w1 := (bal (Below.refl w.heap.size w) o).trans (h.mono (by omega))
set_option maxHeartbeats 1000000 in
theorem parts_o1 (Aa : Option Addr) (ca : Nat) (la : List Nat) (Wa : Int) (Ab : Option Addr) (cb : Nat) (lb : List Nat) (Wb : Int) (i n : Int) (w : World) (ha : R64 w w.heap.size Aa la) (hra : rightB Wa la = false) :
    Calls Try.prog 9 #[.agg #[.int .i64 Wa, .slice Aa la.length ca, .int .i64 Wb, .slice Ab lb.length cb, .int .i64 i, .int .i64 n]] w (RetV w (.bool true)) := by
  have hB0 := Lib.hid (box2 (w.alloc (.cells #[.int .i64 Wa, .slice Aa la.length ca, .int .i64 Wb, .slice Ab lb.length cb, .int .i64 i, .int .i64 n] 58)) (.int .i64 Wa) (.slice Aa la.length ca) (.int .i64 Wb) (.slice Ab lb.length cb))
  have Ha := Lib.hid ha
  have Ra := Lib.hid hra
  clear ha hra
  have hs : (w.alloc (.cells #[.int .i64 Wa, .slice Aa la.length ca, .int .i64 Wb, .slice Ab lb.length cb, .int .i64 i, .int .i64 n] 58)).heap.size = w.heap.size + 1 := by simp
  go_enter Try.func9, Try.ntmps9
  go_wp2_with fail
  obtain ⟨da, db, hB⟩ := hB0.out
  rw [hs] at da db hB
  clear hB0 hs
  replace hB := below_over hB
  generalize ((w.alloc (.cells #[.int .i64 Wa, .slice Aa la.length ca, .int .i64 Wb, .slice Ab lb.length cb, .int .i64 i, .int .i64 n] 58)).alloc (.cells #[.int .i64 Wa, .slice Aa la.length ca] 24)).alloc (.cells #[.int .i64 Wb, .slice Ab lb.length cb] 24) = w0 at *
  refine (shown_any _).mono ?_
  rintro e w1 ⟨rfl, hb1⟩
  replace da := da.nx hb1
  replace db := db.nx hb1
  replace hB := bnx hB hb1
  clear hb1
  obtain ⟨pa1, pa2, pa3⟩ := da.parts
  obtain ⟨pb1, pb2, pb3⟩ := db.parts
  go_wp2_with fail
  refine (refRight_b Ha.out hB Ra.out).mono ?_
  rintro e w2 ⟨rfl, hb2⟩
  clear pa1 pa2 pa3 pb1 pb2 pb3
  replace da := da.nx hb2
  replace db := db.nx hb2
  replace hB := bnx hB hb2
  clear hb2
  obtain ⟨pa1, pa2, pa3⟩ := da.parts
  obtain ⟨pb1, pb2, pb3⟩ := db.parts
  go_wp2
  go_ret
  exact ⟨rfl, hB⟩
set_option maxHeartbeats 1000000 in
theorem parts_o2 (Aa : Option Addr) (ca : Nat) (la : List Nat) (Wa : Int) (Ab : Option Addr) (cb : Nat) (lb : List Nat) (Wb : Int) (i n : Int) (w : World) (ha : R64 w w.heap.size Aa la) (hra : rightB Wa la = true) (hb : R64 w w.heap.size Ab lb) (hrb : rightB Wb lb = false) :
    Calls Try.prog 9 #[.agg #[.int .i64 Wa, .slice Aa la.length ca, .int .i64 Wb, .slice Ab lb.length cb, .int .i64 i, .int .i64 n]] w (RetV w (.bool true)) := by
  have hB0 := Lib.hid (box2 (w.alloc (.cells #[.int .i64 Wa, .slice Aa la.length ca, .int .i64 Wb, .slice Ab lb.length cb, .int .i64 i, .int .i64 n] 58)) (.int .i64 Wa) (.slice Aa la.length ca) (.int .i64 Wb) (.slice Ab lb.length cb))
  have Ha := Lib.hid ha
  have Ra := Lib.hid hra
  clear ha hra
  have Hb := Lib.hid hb
  have Rb := Lib.hid hrb
  clear hb hrb
  have hs : (w.alloc (.cells #[.int .i64 Wa, .slice Aa la.length ca, .int .i64 Wb, .slice Ab lb.length cb, .int .i64 i, .int .i64 n] 58)).heap.size = w.heap.size + 1 := by simp
  go_enter Try.func9, Try.ntmps9
  go_wp2_with fail
  obtain ⟨da, db, hB⟩ := hB0.out
  rw [hs] at da db hB
  clear hB0 hs
  replace hB := below_over hB
  generalize ((w.alloc (.cells #[.int .i64 Wa, .slice Aa la.length ca, .int .i64 Wb, .slice Ab lb.length cb, .int .i64 i, .int .i64 n] 58)).alloc (.cells #[.int .i64 Wa, .slice Aa la.length ca] 24)).alloc (.cells #[.int .i64 Wb, .slice Ab lb.length cb] 24) = w0 at *
  refine (shown_any _).mono ?_
  rintro e w1 ⟨rfl, hb1⟩
  replace da := da.nx hb1
  replace db := db.nx hb1
  replace hB := bnx hB hb1
  clear hb1
  obtain ⟨pa1, pa2, pa3⟩ := da.parts
  obtain ⟨pb1, pb2, pb3⟩ := db.parts
  go_wp2_with fail
  refine (refRight_b Ha.out hB Ra.out).mono ?_
  rintro e w2 ⟨rfl, hb2⟩
  clear pa1 pa2 pa3 pb1 pb2 pb3
  replace da := da.nx hb2
  replace db := db.nx hb2
  replace hB := bnx hB hb2
  clear hb2
  obtain ⟨pa1, pa2, pa3⟩ := da.parts
  obtain ⟨pb1, pb2, pb3⟩ := db.parts
  go_wp2_with fail
  refine (refRight_b Hb.out hB Rb.out).mono ?_
  rintro e w3 ⟨rfl, hb3⟩
  clear pa1 pa2 pa3 pb1 pb2 pb3
  replace da := da.nx hb3
  replace db := db.nx hb3
  replace hB := bnx hB hb3
  clear hb3
  obtain ⟨pa1, pa2, pa3⟩ := da.parts
  obtain ⟨pb1, pb2, pb3⟩ := db.parts
  go_wp2
  go_ret
  exact ⟨rfl, hB⟩
end Go.Proofs.Ytnnoflohekmnbaa
