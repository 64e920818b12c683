/-
  VecCuts: early outs, how its argument is opened.
-/
import Derived.Test.YtnnoflohekmnbaaProg
import Derived.WalkKit
import Derived.WalkSpells
import Derived.WalkLawsBesides
import Derived.LoopN
import Derived.IntWalk
import Derived.Lib.Hide
import Derived.Laws.BitsAllLaws
import Derived.Laws.Externs
import Derived.BigQuiet
import Derived.BigRegion
import Derived.Deep.QuietTactic
import Derived.Deep.RegionWith
import Derived.Deep.RegionHeld3
import Derived.StillTailTactics
import Derived.RegionTactic
import Derived.ChangeAlike
import Derived.Test.YtnnoflohekmnbaaR7
import Derived.Test.YtnnoflohekmnbaaE4
import Derived.Test.YtnnoflohekmnbaaX1
import Derived.OpenShut
set_option linter.unusedVariables false
namespace Go.Proofs.Ytnnoflohekmnbaa
open Go.RowKit
theorem cuts_bx (Aa Ab Ac : Option Addr) (ca cb cc : Nat) (la lb lc : List Nat) (Wa Wb Wc : Int) (x0 x1 x2 : Int) (sg : Bool) (w : World) :
    Bx (((((w.alloc (.cells #[.int .i64 Wa, .slice Aa la.length ca, .int .i64 Wb, .slice Ab lb.length cb, .int .i64 Wc, .slice Ac lc.length cc, .int .i64 x0, .int .i64 x1, .int .i64 x2, .bool sg] 45)).alloc (.cells #[.int .i64 Wa, .slice Aa la.length ca] 24)).alloc (.cells #[.int .i64 Wb, .slice Ab lb.length cb] 24)).alloc (.cells #[.int .i64 Wc, .slice Ac lc.length cc] 24)).alloc (.cells #[.int .i64 x0, .int .i64 x1, .int .i64 x2] 43)) (w.heap.size + 1) (.int .i64 Wa) (.slice Aa la.length ca) ∧ Bx (((((w.alloc (.cells #[.int .i64 Wa, .slice Aa la.length ca, .int .i64 Wb, .slice Ab lb.length cb, .int .i64 Wc, .slice Ac lc.length cc, .int .i64 x0, .int .i64 x1, .int .i64 x2, .bool sg] 45)).alloc (.cells #[.int .i64 Wa, .slice Aa la.length ca] 24)).alloc (.cells #[.int .i64 Wb, .slice Ab lb.length cb] 24)).alloc (.cells #[.int .i64 Wc, .slice Ac lc.length cc] 24)).alloc (.cells #[.int .i64 x0, .int .i64 x1, .int .i64 x2] 43)) (w.heap.size + 2) (.int .i64 Wb) (.slice Ab lb.length cb) ∧ Bx (((((w.alloc (.cells #[.int .i64 Wa, .slice Aa la.length ca, .int .i64 Wb, .slice Ab lb.length cb, .int .i64 Wc, .slice Ac lc.length cc, .int .i64 x0, .int .i64 x1, .int .i64 x2, .bool sg] 45)).alloc (.cells #[.int .i64 Wa, .slice Aa la.length ca] 24)).alloc (.cells #[.int .i64 Wb, .slice Ab lb.length cb] 24)).alloc (.cells #[.int .i64 Wc, .slice Ac lc.length cc] 24)).alloc (.cells #[.int .i64 x0, .int .i64 x1, .int .i64 x2] 43)) (w.heap.size + 3) (.int .i64 Wc) (.slice Ac lc.length cc) ∧ Below w.heap.size w (((((w.alloc (.cells #[.int .i64 Wa, .slice Aa la.length ca, .int .i64 Wb, .slice Ab lb.length cb, .int .i64 Wc, .slice Ac lc.length cc, .int .i64 x0, .int .i64 x1, .int .i64 x2, .bool sg] 45)).alloc (.cells #[.int .i64 Wa, .slice Aa la.length ca] 24)).alloc (.cells #[.int .i64 Wb, .slice Ab lb.length cb] 24)).alloc (.cells #[.int .i64 Wc, .slice Ac lc.length cc] 24)).alloc (.cells #[.int .i64 x0, .int .i64 x1, .int .i64 x2] 43)) := by
  refine ⟨⟨?_⟩, ⟨?_⟩, ⟨?_⟩, bal (bal (bal (bal (bal (Below.refl w.heap.size w) _) _) _) _) _⟩ <;> (refine ⟨?_, ?_, ?_, ?_⟩ <;> go_simp)
set_option maxHeartbeats 1000000 in
theorem cuts_o1 (Aa Ab Ac : Option Addr) (ca cb cc : Nat) (la lb lc : List Nat) (Wa Wb Wc : Int) (x0 x1 x2 : Int) (sg : Bool) (w : World) (ha : R64 w w.heap.size Aa la) (hra : rightB Wa la = false) :
    Calls Try.prog 5 #[.agg #[.int .i64 Wa, .slice Aa la.length ca, .int .i64 Wb, .slice Ab lb.length cb, .int .i64 Wc, .slice Ac lc.length cc, .int .i64 x0, .int .i64 x1, .int .i64 x2, .bool sg]] w (RetV w (.bool true)) := by
  have hB0 := Lib.hid (cuts_bx Aa Ab Ac ca cb cc la lb lc Wa Wb Wc x0 x1 x2 sg w)
  have Ha := Lib.hid ha
  have Ra := Lib.hid hra
  clear ha hra
  go_enter Try.func5, Try.ntmps5
  go_wp2_with fail
  obtain ⟨da, db, dc, hB⟩ := hB0.out
  clear hB0
  generalize (((((w.alloc (.cells #[.int .i64 Wa, .slice Aa la.length ca, .int .i64 Wb, .slice Ab lb.length cb, .int .i64 Wc, .slice Ac lc.length cc, .int .i64 x0, .int .i64 x1, .int .i64 x2, .bool sg] 45)).alloc (.cells #[.int .i64 Wa, .slice Aa la.length ca] 24)).alloc (.cells #[.int .i64 Wb, .slice Ab lb.length cb] 24)).alloc (.cells #[.int .i64 Wc, .slice Ac lc.length cc] 24)).alloc (.cells #[.int .i64 x0, .int .i64 x1, .int .i64 x2] 43)) = w0 at *
  refine (shown_any _).mono ?_
  rintro e w1 ⟨rfl, hb1⟩
  replace da := da.nx hb1
  replace db := db.nx hb1
  replace dc := dc.nx hb1
  replace hB := bnx hB hb1
  clear hb1
  obtain ⟨pa1, pa2, pa3⟩ := da.parts
  obtain ⟨pb1, pb2, pb3⟩ := db.parts
  obtain ⟨pc1, pc2, pc3⟩ := dc.parts
  go_wp2_with fail
  refine (refRight_b Ha.out hB Ra.out).mono ?_
  rintro e w2 ⟨rfl, hb2⟩
  clear pa1 pa2 pa3 pb1 pb2 pb3 pc1 pc2 pc3
  replace da := da.nx hb2
  replace db := db.nx hb2
  replace dc := dc.nx hb2
  replace hB := bnx hB hb2
  clear hb2
  obtain ⟨pa1, pa2, pa3⟩ := da.parts
  obtain ⟨pb1, pb2, pb3⟩ := db.parts
  obtain ⟨pc1, pc2, pc3⟩ := dc.parts
  go_wp2
  go_ret
  exact ⟨rfl, hB⟩
set_option maxHeartbeats 1000000 in
theorem cuts_o2 (Aa Ab Ac : Option Addr) (ca cb cc : Nat) (la lb lc : List Nat) (Wa Wb Wc : Int) (x0 x1 x2 : Int) (sg : Bool) (w : World) (ha : R64 w w.heap.size Aa la) (hra : rightB Wa la = true) (hb : R64 w w.heap.size Ab lb) (hrb : rightB Wb lb = false) :
    Calls Try.prog 5 #[.agg #[.int .i64 Wa, .slice Aa la.length ca, .int .i64 Wb, .slice Ab lb.length cb, .int .i64 Wc, .slice Ac lc.length cc, .int .i64 x0, .int .i64 x1, .int .i64 x2, .bool sg]] w (RetV w (.bool true)) := by
  have hB0 := Lib.hid (cuts_bx Aa Ab Ac ca cb cc la lb lc Wa Wb Wc x0 x1 x2 sg w)
  have Ha := Lib.hid ha
  have Ra := Lib.hid hra
  clear ha hra
  have Hb := Lib.hid hb
  have Rb := Lib.hid hrb
  clear hb hrb
  go_enter Try.func5, Try.ntmps5
  go_wp2_with fail
  obtain ⟨da, db, dc, hB⟩ := hB0.out
  clear hB0
  generalize (((((w.alloc (.cells #[.int .i64 Wa, .slice Aa la.length ca, .int .i64 Wb, .slice Ab lb.length cb, .int .i64 Wc, .slice Ac lc.length cc, .int .i64 x0, .int .i64 x1, .int .i64 x2, .bool sg] 45)).alloc (.cells #[.int .i64 Wa, .slice Aa la.length ca] 24)).alloc (.cells #[.int .i64 Wb, .slice Ab lb.length cb] 24)).alloc (.cells #[.int .i64 Wc, .slice Ac lc.length cc] 24)).alloc (.cells #[.int .i64 x0, .int .i64 x1, .int .i64 x2] 43)) = w0 at *
  refine (shown_any _).mono ?_
  rintro e w1 ⟨rfl, hb1⟩
  replace da := da.nx hb1
  replace db := db.nx hb1
  replace dc := dc.nx hb1
  replace hB := bnx hB hb1
  clear hb1
  obtain ⟨pa1, pa2, pa3⟩ := da.parts
  obtain ⟨pb1, pb2, pb3⟩ := db.parts
  obtain ⟨pc1, pc2, pc3⟩ := dc.parts
  go_wp2_with fail
  refine (refRight_b Ha.out hB Ra.out).mono ?_
  rintro e w2 ⟨rfl, hb2⟩
  clear pa1 pa2 pa3 pb1 pb2 pb3 pc1 pc2 pc3
  replace da := da.nx hb2
  replace db := db.nx hb2
  replace dc := dc.nx hb2
  replace hB := bnx hB hb2
  clear hb2
  obtain ⟨pa1, pa2, pa3⟩ := da.parts
  obtain ⟨pb1, pb2, pb3⟩ := db.parts
  obtain ⟨pc1, pc2, pc3⟩ := dc.parts
  go_wp2_with fail
  refine (refRight_b Hb.out hB Rb.out).mono ?_
  rintro e w3 ⟨rfl, hb3⟩
  clear pa1 pa2 pa3 pb1 pb2 pb3 pc1 pc2 pc3
  replace da := da.nx hb3
  replace db := db.nx hb3
  replace dc := dc.nx hb3
  replace hB := bnx hB hb3
  clear hb3
  obtain ⟨pa1, pa2, pa3⟩ := da.parts
  obtain ⟨pb1, pb2, pb3⟩ := db.parts
  obtain ⟨pc1, pc2, pc3⟩ := dc.parts
  go_wp2
  go_ret
  exact ⟨rfl, hB⟩
set_option maxHeartbeats 1000000 in
theorem cuts_o3 (Aa Ab Ac : Option Addr) (ca cb cc : Nat) (la lb lc : List Nat) (Wa Wb Wc : Int) (x0 x1 x2 : Int) (sg : Bool) (w : World) (ha : R64 w w.heap.size Aa la) (hra : rightB Wa la = true) (hb : R64 w w.heap.size Ab lb) (hrb : rightB Wb lb = true) (hc : R64 w w.heap.size Ac lc) (hrc : rightB Wc lc = false) :
    Calls Try.prog 5 #[.agg #[.int .i64 Wa, .slice Aa la.length ca, .int .i64 Wb, .slice Ab lb.length cb, .int .i64 Wc, .slice Ac lc.length cc, .int .i64 x0, .int .i64 x1, .int .i64 x2, .bool sg]] w (RetV w (.bool true)) := by
  have hB0 := Lib.hid (cuts_bx Aa Ab Ac ca cb cc la lb lc Wa Wb Wc x0 x1 x2 sg w)
  have Ha := Lib.hid ha
  have Ra := Lib.hid hra
  clear ha hra
  have Hb := Lib.hid hb
  have Rb := Lib.hid hrb
  clear hb hrb
  have Hc := Lib.hid hc
  have Rc := Lib.hid hrc
  clear hc hrc
  go_enter Try.func5, Try.ntmps5
  go_wp2_with fail
  obtain ⟨da, db, dc, hB⟩ := hB0.out
  clear hB0
  generalize (((((w.alloc (.cells #[.int .i64 Wa, .slice Aa la.length ca, .int .i64 Wb, .slice Ab lb.length cb, .int .i64 Wc, .slice Ac lc.length cc, .int .i64 x0, .int .i64 x1, .int .i64 x2, .bool sg] 45)).alloc (.cells #[.int .i64 Wa, .slice Aa la.length ca] 24)).alloc (.cells #[.int .i64 Wb, .slice Ab lb.length cb] 24)).alloc (.cells #[.int .i64 Wc, .slice Ac lc.length cc] 24)).alloc (.cells #[.int .i64 x0, .int .i64 x1, .int .i64 x2] 43)) = w0 at *
  refine (shown_any _).mono ?_
  rintro e w1 ⟨rfl, hb1⟩
  replace da := da.nx hb1
  replace db := db.nx hb1
  replace dc := dc.nx hb1
  replace hB := bnx hB hb1
  clear hb1
  obtain ⟨pa1, pa2, pa3⟩ := da.parts
  obtain ⟨pb1, pb2, pb3⟩ := db.parts
  obtain ⟨pc1, pc2, pc3⟩ := dc.parts
  go_wp2_with fail
  refine (refRight_b Ha.out hB Ra.out).mono ?_
  rintro e w2 ⟨rfl, hb2⟩
  clear pa1 pa2 pa3 pb1 pb2 pb3 pc1 pc2 pc3
  replace da := da.nx hb2
  replace db := db.nx hb2
  replace dc := dc.nx hb2
  replace hB := bnx hB hb2
  clear hb2
  obtain ⟨pa1, pa2, pa3⟩ := da.parts
  obtain ⟨pb1, pb2, pb3⟩ := db.parts
  obtain ⟨pc1, pc2, pc3⟩ := dc.parts
  go_wp2_with fail
  refine (refRight_b Hb.out hB Rb.out).mono ?_
  rintro e w3 ⟨rfl, hb3⟩
  clear pa1 pa2 pa3 pb1 pb2 pb3 pc1 pc2 pc3
  replace da := da.nx hb3
  replace db := db.nx hb3
  replace dc := dc.nx hb3
  replace hB := bnx hB hb3
  clear hb3
  obtain ⟨pa1, pa2, pa3⟩ := da.parts
  obtain ⟨pb1, pb2, pb3⟩ := db.parts
  obtain ⟨pc1, pc2, pc3⟩ := dc.parts
  go_wp2_with fail
  refine (refRight_b Hc.out hB Rc.out).mono ?_
  rintro e w4 ⟨rfl, hb4⟩
  clear pa1 pa2 pa3 pb1 pb2 pb3 pc1 pc2 pc3
  replace da := da.nx hb4
  replace db := db.nx hb4
  replace dc := dc.nx hb4
  replace hB := bnx hB hb4
  clear hb4
  obtain ⟨pa1, pa2, pa3⟩ := da.parts
  obtain ⟨pb1, pb2, pb3⟩ := db.parts
  obtain ⟨pc1, pc2, pc3⟩ := dc.parts
  go_wp2
  go_ret
  exact ⟨rfl, hB⟩
open Go.Shelf Go.ChangeShapes Go.WideShapes Go.ChangeAt Go.RowKit Go.Lib Go.Joins
theorem cells45 : Try.prog.cellsOf 45 = 10 := by kernel_rfl
theorem c24 : Try.prog.cellsOf 24 = 2 := by kernel_rfl
theorem c43 : Try.prog.cellsOf 43 = 3 := by kernel_rfl
theorem c3_ : Try.prog.cellsOf 3 = 1 := by kernel_rfl
theorem c4_ : Try.prog.cellsOf 4 = 1 := by kernel_rfl
set_option maxRecDepth 100000 in
/-- VecCuts' argument. -/
theorem opened45 {H : Type} {enc : TypeId × Value → H} {W : World} {r : Reach} {b0 : Nat} {v : Value} {d : DataW H} {p : List MemPlace} (hv : Value.okWide Try.prog W r b0 45 v) (h : DataW.Trod enc Try.prog W 0 (fun _ => true) true 45 v d p) :
    ∃ (Wa : Int) (Aa : Option Addr) (ca : Nat) (la : List Nat) (Wb : Int) (Ab : Option Addr) (cb : Nat) (lb : List Nat) (Wc : Int) (Ac : Option Addr) (cc : Nat) (lc : List Nat) (x0 x1 x2 : Int) (sg : Bool), v = .agg #[.int .i64 Wa, .slice Aa la.length ca, .int .i64 Wb, .slice Ab lb.length cb, .int .i64 Wc, .slice Ac lc.length cc, .int .i64 x0, .int .i64 x1, .int .i64 x2, .bool sg] ∧
      (R64 W W.heap.size Aa la ∧ (∀ x ∈ la, x < 18446744073709551616) ∧ la.length ≤ ca ∧ ca ≤ maxLen) ∧ (R64 W W.heap.size Ab lb ∧ (∀ x ∈ lb, x < 18446744073709551616) ∧ lb.length ≤ cb ∧ cb ≤ maxLen) ∧ (R64 W W.heap.size Ac lc ∧ (∀ x ∈ lc, x < 18446744073709551616) ∧ lc.length ≤ cc ∧ cc ≤ maxLen) := by
  obtain ⟨cs, rfl, hsz⟩ := okWide_struct Try.underlying45 hv
  obtain ⟨fuel, hf⟩ := h
  obtain ⟨l⟩ := cs
  match l, hsz.trans cells45 with
  | [v0, v1, v2, v3, v4, v5, v6, v7, v8, v9], _ =>
    obtain ⟨xs, k, hk, hxy, _, hxl, hfs⟩ := DataW.trod_struct Try.underlying45 hf
    match xs, hxl with
    | [y0, y1, y2, y3, y4], _ =>
      have g0 := hfs 0 _ rfl
      have g1 := hfs 1 _ rfl
      have g2 := hfs 2 _ rfl
      have g3 := hfs 3 _ rfl
      have g4 := hfs 4 _ rfl
      simp [c24, c43, c4_, Value.cells] at g0 g1 g2 g3 g4
      obtain ⟨V, A, c, l, rfl, rfl, a1, a2, a3, a4⟩ := opened_two g0
      obtain ⟨V', A', c', l', rfl, rfl, b1, b2, b3, b4⟩ := opened_two g1
      obtain ⟨V'', A'', c'', l'', rfl, rfl, d1, d2, d3, d4⟩ := opened_two g2
      obtain ⟨zs, m, hm, _, _, hzl, hz⟩ := DataW.trod_array Try.underlying43 g3
      match zs, hzl with
      | [z0, z1, z2], _ =>
        have q0 := hz 0 (by omega)
        have q1 := hz 1 (by omega)
        have q2 := hz 2 (by omega)
        simp [c3_] at q0 q1 q2
        obtain ⟨i0, e0, _, w0⟩ := DataW.trod_int Try.underlying3 q0
        obtain ⟨i1, e1, _, w1⟩ := DataW.trod_int Try.underlying3 q1
        obtain ⟨i2, e2, _, w2⟩ := DataW.trod_int Try.underlying3 q2
        obtain ⟨sb, e4, _⟩ := DataW.trod_bool Try.underlying4 g4
        simp at e0 e1 e2 e4
        subst e0 e1 e2 e4
        exact ⟨V, A, c, l, V', A', c', l', V'', A'', c'', l'', i0, i1, i2, sb, rfl, ⟨a1, a2, a3, a4⟩, ⟨b1, b2, b3, b4⟩, ⟨d1, d2, d3, d4⟩⟩
end Go.Proofs.Ytnnoflohekmnbaa
