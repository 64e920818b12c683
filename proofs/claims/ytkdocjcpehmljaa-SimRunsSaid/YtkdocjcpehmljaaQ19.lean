/-
  One statement's walk: SimTells.
-/
import Derived.Test.YtkdocjcpehmljaaProg
import Derived.WalkKit
import Derived.WalkSpells
import Derived.WalkLawsBesides
import Derived.Lib.Hide
import Derived.BigQuiet
import Derived.Deep.QuietTactic
import Derived.Deep.RegionWith
import Derived.Deep.RegionHeld3
import Derived.Test.YtkdocjcpehmljaaQ18
import Derived.Test.YtkdocjcpehmljaaQ15
set_option linter.unusedVariables false
namespace Go.Proofs.Ytkdocjcpehmljaa
open Go.RowKit
theorem flagsEqQ (A A' : Option Addr) (c c' : Nat) (l : List Bool) (w : World) (h : RB w w.heap.size A l) (h' : RB w w.heap.size A' l) (hn : l.length ≤ maxLen) :
    Calls Try.prog 21 #[.slice A l.length c, .slice A' l.length c'] w fun e w' => e = .returned (.bool true) ∧ ∃ n, w' = w.drewN n := by
  have := Flags_q A A' c c' l l w h h' hn hn
  rwa [show (l == l) = true by simp] at this
theorem flagsEq (A A' : Option Addr) (c c' : Nat) (l : List Bool) (w : World) (h : RB w w.heap.size A l) (h' : RB w w.heap.size A' l) (hn : l.length ≤ maxLen) :
    Calls Try.prog 21 #[.slice A l.length c, .slice A' l.length c'] w (RetV w (.bool true)) := by
  have := Flags_any A A' c c' l l w h h' hn hn
  rwa [show (l == l) = true by simp] at this
theorem rowsEq (A A' : Option Addr) (c c' : Nat) (l : List (List Bool)) (w : World) (h : RR w w.heap.size A l) (h' : RR w w.heap.size A' l) (hn : l.length ≤ maxLen) :
    Calls Try.prog 22 #[.slice A l.length c, .slice A' l.length c'] w (RetV w (.bool true)) := by
  have := Rows_any A A' c c' l l w h h' hn hn
  rwa [show (l == l) = true by simp] at this
set_option maxRecDepth 100000 in
set_option maxHeartbeats 8000000 in
theorem tells_any (I : Int) (AL AG AO AB AC AN : Option Addr) (cL cG cO cB cC cN : Nat) (L G : List Pr) (O D C : List Int) (N : List Nm) (AS AR : Option Addr) (cs cr : Nat) (st : List Bool) (ins : List (List Bool)) (l : Int) (w : World) (hA : RA w w.heap.size AL AG AO AB AC AN L G O D C N) (lO : O.length ≤ maxLen) (lD : D.length ≤ maxLen) (lC : C.length ≤ maxLen) (lN : N.length ≤ maxLen)
    (hS : RB w w.heap.size AS st) (hR : RR w w.heap.size AR ins) (nS : st.length ≤ cs) (mS : cs ≤ maxLen) (zS : AS = none → cs = 0) (nR : ins.length ≤ cr) (mR : cr ≤ maxLen) (b0 : -9223372036854775808 ≤ l) (b1 : l ≤ 9223372036854775807) :
    Calls Try.prog 3 #[.agg #[.int .i64 I, .slice AL L.length cL, .slice AG G.length cG, .slice AO O.length cO, .slice AB D.length cB, .slice AC C.length cC, .slice AN N.length cN, .slice AS st.length cs, .slice AR ins.length cr, .int .i64 l]] w (RetV w (.bool true)) := by
  have hb := bal (bal (Below.refl w.heap.size w) (.cells #[.int .i64 I, .slice AL L.length cL, .slice AG G.length cG, .slice AO O.length cO, .slice AB D.length cB, .slice AC C.length cC, .slice AN N.length cN, .slice AS st.length cs, .slice AR ins.length cr, .int .i64 l] 31)) (.cells #[.int .i64 I, .slice AL L.length cL, .slice AG G.length cG, .slice AO O.length cO, .slice AB D.length cB, .slice AC C.length cC, .slice AN N.length cN] 27)
  have hk : KA ((w.alloc (.cells #[.int .i64 I, .slice AL L.length cL, .slice AG G.length cG, .slice AO O.length cO, .slice AB D.length cB, .slice AC C.length cC, .slice AN N.length cN, .slice AS st.length cs, .slice AR ins.length cr, .int .i64 l] 31)).alloc (.cells #[.int .i64 I, .slice AL L.length cL, .slice AG G.length cG, .slice AO O.length cO, .slice AB D.length cB, .slice AC C.length cC, .slice AN N.length cN] 27)) (w.heap.size + 1) I AL AG AO AB AC AN cL cG cO cB cC cN L G O D C N := by constructor <;> go_simp
  have hs0 : ((w.alloc (.cells #[.int .i64 I, .slice AL L.length cL, .slice AG G.length cG, .slice AO O.length cO, .slice AB D.length cB, .slice AC C.length cC, .slice AN N.length cN, .slice AS st.length cs, .slice AR ins.length cr, .int .i64 l] 31)).alloc (.cells #[.int .i64 I, .slice AL L.length cL, .slice AG G.length cG, .slice AO O.length cO, .slice AB D.length cB, .slice AC C.length cC, .slice AN N.length cN] 27)).heap.size = w.heap.size + 2 := by simp
  have HS0 := Lib.hid hs0
  have CSH := shown_any ((w.alloc (.cells #[.int .i64 I, .slice AL L.length cL, .slice AG G.length cG, .slice AO O.length cO, .slice AB D.length cB, .slice AC C.length cC, .slice AN N.length cN, .slice AS st.length cs, .slice AR ins.length cr, .int .i64 l] 31)).alloc (.cells #[.int .i64 I, .slice AL L.length cL, .slice AG G.length cG, .slice AO O.length cO, .slice AB D.length cB, .slice AC C.length cC, .slice AN N.length cN] 27))
  have HA := Lib.hid (hA.nx hb)
  have HB0 := Lib.hid hb
  have HK := Lib.hid hk
  have HS := Lib.hid (hS.nx hb)
  have HR := Lib.hid (hR.nx hb)
  have HZ := Lib.hid zS
  have CM := May_any I AL AG AO AB AC AN cL cG cO cB cC cN L G O D C N
  have HCM := Lib.hid (fun wx h => CM wx h lO lD lC lN)
  have ls : st.length ≤ 9223372036854775807 := by unfold maxLen at mS; omega
  have lr : ins.length ≤ maxLen := by omega
  clear hA hb hk hs0 hS hR CM lO lD lC lN nS mS nR mR zS
  go_enter Try.func3, Try.ntmps3
  go_wp2_with fail
  refine CSH.mono ?_; rintro e u1 ⟨rfl, hu1⟩
  generalize ((w.alloc (.cells #[.int .i64 I, .slice AL L.length cL, .slice AG G.length cG, .slice AO O.length cO, .slice AB D.length cB, .slice AC C.length cC, .slice AN N.length cN, .slice AS st.length cs, .slice AR ins.length cr, .int .i64 l] 31)).alloc (.cells #[.int .i64 I, .slice AL L.length cL, .slice AG G.length cG, .slice AO O.length cO, .slice AB D.length cB, .slice AC C.length cC, .slice AN N.length cN] 27)) = w0 at *
  obtain ⟨k0, k1, k2, k3, k4, k5, k6⟩ := HK.out.nx hu1 (by have := HS0.out; omega)
  have HU1 := Lib.hid hu1
  have C1 := HCM.out u1 (HA.out.nx hu1)
  clear CSH hu1 HCM
  go_wp2_with fail
  refine C1.mono ?_; rintro e u2 ⟨bm, rfl, pm, hu2⟩
  have hU2 := bnx HU1.out hu2
  have HU3 := Lib.hid hU2
  have HF2 := Lib.hid (HB0.out.trans (hU2.mono HB0.out.size))
  obtain ⟨g0, g1, g2, g3, g4, g5, g6⟩ := HK.out.nx hU2 (by have := HS0.out; omega)
  have HP := Lib.hid pm
  clear C1 hu2 hU2 pm k0 k1 k2 k3 k4 k5 k6
  cases bm
  · clear g0 g1 g2 g3 g4 g5 g6
    go_wp2
    go_ret
    exact ⟨rfl, HF2.out⟩
  have hMd := HP.out (by simp)
  have HM := Lib.hid hMd.1
  have HX := Lib.hid (show 0 ≤ I ∧ I ≤ 40 ∧ L.length ≤ 40 ∧ G.length ≤ 40 ∧ O.length ≤ 40 ∧ D.length ≤ 40 ∧ C.length ≤ 40 from ⟨hMd.1.i0, hMd.2.1, hMd.2.2.1, hMd.2.2.2.1, hMd.2.2.2.2.1, hMd.2.2.2.2.2.1, hMd.2.2.2.2.2.2.1⟩)
  clear HP hMd
  have c12 := Few_any AR cr 20 ins u2 (HR.out.nx HU3.out) lr (by omega)
  obtain ⟨ff, hff⟩ : ∃ b, fewF 20 ins = b := ⟨_, rfl⟩
  rw [hff] at c12
  have HFF := Lib.hid hff
  clear hff
  go_wp2_with fail
  refine c12.mono ?_; rintro e u3 ⟨rfl, rfl⟩
  clear c12
  cases ff
  · clear g0 g1 g2 g3 g4 g5 g6
    go_wp2
    go_ret
    exact ⟨rfl, HF2.out⟩
  by_cases z1 : 60 < st.length
  · have d1 : decide (60 < st.length) = true := decide_eq_true z1
    have d2 : decide ((60 : Int) < (st.length : Int)) = true := decide_eq_true (by omega)
    clear g0 g1 g2 g3 g4 g5 g6
    go_wp2
    go_ret
    exact ⟨rfl, HF2.out⟩
  have d1 : decide (60 < st.length) = false := decide_eq_false z1
  have d2 : decide ((60 : Int) < (st.length : Int)) = false := decide_eq_false (by omega)
  have hins : ins.length ≤ 20 := by have := (few_parts HFF.out).1; omega
  have HA2 := Lib.hid (HA.out.nx HU3.out)
  have HS2 := Lib.hid (HS.out.nx HU3.out)
  have HR2 := Lib.hid (HR.out.nx HU3.out)
  have HK2 := Lib.hid (HK.out.nx HU3.out (by have := HS0.out; omega))
  have HBK := Lib.hid (show w.heap.size + 1 < u2.heap.size by have := HS0.out; have := HU3.out.size; omega)
  have HU0 := Lib.hid (Below.refl u2.heap.size u2)
  have HCT : Hid (∀ wx, Below u2.heap.size u2 wx → Calls Try.prog 17 #[.agg #[.int .i64 I, .slice AL L.length cL, .slice AG G.length cG, .slice AO O.length cO, .slice AB D.length cB, .slice AC C.length cC, .slice AN N.length cN], .slice AS st.length cs] wx (RetB0 wx (orNil (fitS L st) (startL L st)) (errX (fitS L st)))) := Lib.hid fun wx hx => Start_any I AL AG AO AB AC AN cL cG cO cB cC cN L G O D C N AS cs st wx (HA2.out.nx hx) (HS2.out.nx hx) HM.out
  have HCt : Hid (∀ wx, Below u2.heap.size u2 wx → Calls Try.prog 18 #[.agg #[.int .i64 I, .slice AL L.length cL, .slice AG G.length cG, .slice AO O.length cO, .slice AB D.length cB, .slice AC C.length cC, .slice AN N.length cN], .slice AS st.length cs] wx (RetB0 wx (orNil (fitS L st) (startL L st)) (errX (fitS L st)))) := Lib.hid fun wx hx => refStart_any I AL AG AO AB AC AN cL cG cO cB cC cN L G O D C N AS cs st wx (HA2.out.nx hx) (HS2.out.nx hx) HM.out
  have HCR : Hid (∀ wx, Below u2.heap.size u2 wx → Calls Try.prog 19 #[.agg #[.int .i64 I, .slice AL L.length cL, .slice AG G.length cG, .slice AO O.length cO, .slice AB D.length cB, .slice AC C.length cC, .slice AN N.length cN], .slice AS st.length cs, .slice AR ins.length cr] wx (RetRR wx (orNil (fitR I L st ins) (runL L G (startL L st) ins)) (errX (fitR I L st ins)))) := Lib.hid fun wx hx => Run_any I AL AG AO AB AC AN cL cG cO cB cC cN L G O D C N AS AR cs cr st ins wx (HA2.out.nx hx) (HS2.out.nx hx) (HR2.out.nx hx) HM.out (by omega)
  have HCr : Hid (∀ wx, Below u2.heap.size u2 wx → Calls Try.prog 20 #[.agg #[.int .i64 I, .slice AL L.length cL, .slice AG G.length cG, .slice AO O.length cO, .slice AB D.length cB, .slice AC C.length cC, .slice AN N.length cN], .slice AS st.length cs, .slice AR ins.length cr] wx (RetRR wx (orNil (fitR I L st ins) (runL L G (startL L st) ins)) (errX (fitR I L st ins)))) := Lib.hid fun wx hx => refRun_any I AL AG AO AB AC AN cL cG cO cB cC cN L G O D C N AS AR cs cr st ins wx (HA2.out.nx hx) (HS2.out.nx hx) (HR2.out.nx hx) HM.out (by omega)
  have HBL : Hid ((orNil (fitS L st) (startL L st)).length ≤ 1000 ∧ (orNil (fitR I L st ins) (runL L G (startL L st) ins)).length ≤ 1000) := Lib.hid (by
    refine ⟨?_, ?_⟩
    · cases h : fitS L st
      · simp [orNil]
      · have := startL_len L st (by simpa [fitS] using h)
        simp [orNil]; omega
    · cases fitR I L st ins <;> simp [orNil, runL]; omega)
  generalize orNil (fitS L st) (startL L st) = TS at *
  generalize errX (fitS L st) = x2 at *
  generalize orNil (fitR I L st ins) (runL L G (startL L st) ins) = TR at *
  generalize errX (fitR I L st ins) = x3 at *
  by_cases hi0 : 0 < ins.length
  · have hi1 : (0 : Int) < (ins.length : Int) := by omega
    have hi2 : decide ((0 : Int) < (ins.length : Int)) = true := decide_eq_true hi1
    obtain ⟨ar, AI, ci, rfl, _, hc0, hI0, nI, mI, zI⟩ := (HR.out.nx HU3.out) 0 hi0
    have hc1 : u2.cell? ar = some (.slice AI (ins.getD 0 []).length ci) := by simpa [Addr.add] using hc0
    have HI2 := Lib.hid hI0
    have HIN := Lib.hid (show (ins.getD 0 []).length ≤ 60 from (few_parts HFF.out).2 _ (by
      rw [List.getD_eq_getElem?_getD, List.getElem?_eq_getElem hi0]
      exact List.getElem_mem _))
    have HZI := Lib.hid zI
    generalize ins.getD 0 [] = inp at *
    clear hI0 nI mI hc0 zI HA HS HR HK HU1 HU3 HS0 HB0
    have HCV : Hid (∀ wx, Below u2.heap.size u2 wx → Calls Try.prog 13 #[.agg #[.int .i64 I, .slice AL L.length cL, .slice AG G.length cG, .slice AO O.length cO, .slice AB D.length cB, .slice AC C.length cC, .slice AN N.length cN], .slice AS st.length cs, .slice AI inp.length ci] wx (RetB0 wx (orNil (fit I L st inp) (valsOf st inp G)) (errX (fit I L st inp)))) := Lib.hid fun wx hx => Values_any I AL AG AO AB AC AN cL cG cO cB cC cN L G O D C N AS AI cs ci st inp wx (HA2.out.nx hx) (HS2.out.nx hx) (HI2.out.nx hx) HM.out
    have HCv : Hid (∀ wx, Below u2.heap.size u2 wx → Calls Try.prog 14 #[.agg #[.int .i64 I, .slice AL L.length cL, .slice AG G.length cG, .slice AO O.length cO, .slice AB D.length cB, .slice AC C.length cC, .slice AN N.length cN], .slice AS st.length cs, .slice AI inp.length ci] wx (RetB0 wx (orNil (fit I L st inp) (valsOf st inp G)) (errX (fit I L st inp)))) := Lib.hid fun wx hx => refValues_any I AL AG AO AB AC AN cL cG cO cB cC cN L G O D C N AS AI cs ci st inp wx (HA2.out.nx hx) (HS2.out.nx hx) (HI2.out.nx hx) HZ.out HZI.out HM.out
    have HCS : Hid (∀ wx, Below u2.heap.size u2 wx → Calls Try.prog 15 #[.agg #[.int .i64 I, .slice AL L.length cL, .slice AG G.length cG, .slice AO O.length cO, .slice AB D.length cB, .slice AC C.length cC, .slice AN N.length cN], .slice AS st.length cs, .slice AI inp.length ci] wx (RetT wx (orNil (fit I L st inp) (nextL L G st inp)) (orNil (fit I L st inp) (tellL O G st inp)) (orNil (fit I L st inp) (tellL D G st inp)) (orNil (fit I L st inp) (tellL C G st inp)) (errX (fit I L st inp)))) := Lib.hid fun wx hx => Step_any I AL AG AO AB AC AN cL cG cO cB cC cN L G O D C N AS AI cs ci st inp wx (HA2.out.nx hx) (HS2.out.nx hx) (HI2.out.nx hx) HM.out
    have HCs : Hid (∀ wx, Below u2.heap.size u2 wx → Calls Try.prog 16 #[.agg #[.int .i64 I, .slice AL L.length cL, .slice AG G.length cG, .slice AO O.length cO, .slice AB D.length cB, .slice AC C.length cC, .slice AN N.length cN], .slice AS st.length cs, .slice AI inp.length ci] wx (RetT wx (orNil (fit I L st inp) (nextL L G st inp)) (orNil (fit I L st inp) (tellL O G st inp)) (orNil (fit I L st inp) (tellL D G st inp)) (orNil (fit I L st inp) (tellL C G st inp)) (errX (fit I L st inp)))) := Lib.hid fun wx hx => refStep_any I AL AG AO AB AC AN cL cG cO cB cC cN L G O D C N AS AI cs ci st inp wx (HA2.out.nx hx) (HS2.out.nx hx) (HI2.out.nx hx) HZ.out HZI.out HM.out
    have HB : Hid ((orNil (fit I L st inp) (valsOf st inp G)).length ≤ 1000 ∧ (orNil (fit I L st inp) (nextL L G st inp)).length ≤ 1000 ∧ (orNil (fit I L st inp) (tellL O G st inp)).length ≤ 1000 ∧ (orNil (fit I L st inp) (tellL D G st inp)).length ≤ 1000 ∧ (orNil (fit I L st inp) (tellL C G st inp)).length ≤ 1000) := Lib.hid (by
      have := HX.out
      have e1 := valsOf_length st inp G
      have e2 := HIN.out
      cases fit I L st inp <;> simp [orNil, nextL, tellL, e1] <;> omega)
    clear HX HIN HM HI2
    generalize orNil (fit I L st inp) (valsOf st inp G) = TV at *
    generalize orNil (fit I L st inp) (nextL L G st inp) = TN at *
    generalize orNil (fit I L st inp) (tellL O G st inp) = TO at *
    generalize orNil (fit I L st inp) (tellL D G st inp) = TD at *
    generalize orNil (fit I L st inp) (tellL C G st inp) = TC at *
    generalize errX (fit I L st inp) = x1 at *
    have c13 := HCV.out u2 HU0.out
    go_wp2_with fail
    refine c13.mono ?_; rintro e a1 ⟨Av, cv, rfl, rv, zv, nv, mv, ha1⟩
    have Ha1 := Lib.hid (bnx HU0.out ha1)
    have RV := Lib.hid (And.intro rv (And.intro zv (And.intro nv mv)))
    clear rv zv nv mv
    obtain ⟨k0, k1, k2, k3, k4, k5, k6⟩ := HK2.out.nx Ha1.out HBK.out
    clear c13 ha1 g0 g1 g2 g3 g4 g5 g6
    have c14 := HCv.out a1 Ha1.out
    go_wp2_with fail
    refine c14.mono ?_; rintro e a2 ⟨Aw, cw, rfl, rw_, zw, nw, mw, ha2⟩
    have Ha2 := Lib.hid (bnx Ha1.out ha2)
    have RV := Lib.hid (RV.out.1.nx ha2)
    have RW := Lib.hid rw_
    clear rw_ zw nw mw
    obtain ⟨g0, g1, g2, g3, g4, g5, g6⟩ := HK2.out.nx Ha2.out HBK.out
    clear c14 ha2 k0 k1 k2 k3 k4 k5 k6
    have c15 := HCS.out a2 Ha2.out
    go_wp2_with fail
    refine c15.mono ?_; rintro e a3 ⟨vn, vo, vd, vc, rfl, ⟨Apn, cpn, rfl, rpn, _⟩, ⟨Apo, cpo, rfl, rpo, _⟩, ⟨Apd, cpd, rfl, rpd, _⟩, ⟨Apc, cpc, rfl, rpc, _⟩, ha3⟩
    have hb3 := bal (Below.refl a3.heap.size a3) (.cells #[.slice Apo TO.length cpo, .slice Apd TD.length cpd, .slice Apc TC.length cpc] 40)
    have htb3 := T3.new a3 (.slice Apo TO.length cpo) (.slice Apd TD.length cpd) (.slice Apc TC.length cpc) 40
    have hsb3 : (a3.alloc (.cells #[.slice Apo TO.length cpo, .slice Apd TD.length cpd, .slice Apc TC.length cpc] 40)).heap.size = a3.heap.size + 1 := by simp
    have Hb3 := Lib.hid (bnx (bnx Ha2.out ha3) hb3)
    have RV := Lib.hid (RV.out.nx (bnx ha3 hb3))
    have RW := Lib.hid (RW.out.nx (bnx ha3 hb3))
    have RPN := Lib.hid (rpn.nx hb3)
    have RPO := Lib.hid (rpo.nx hb3)
    have RPD := Lib.hid (rpd.nx hb3)
    have RPC := Lib.hid (rpc.nx hb3)
    have HTp := Lib.hid htb3
    have HTpl : Hid (a3.heap.size < (a3.alloc (.cells #[.slice Apo TO.length cpo, .slice Apd TD.length cpd, .slice Apc TC.length cpc] 40)).heap.size) := Lib.hid (by simp)
    clear c15 ha3 hb3 htb3 hsb3 rpn rpo rpd rpc g0 g1 g2 g3 g4 g5 g6
    go_upto_region 14 with fail
    generalize (a3.alloc (.cells #[.slice Apo TO.length cpo, .slice Apd TD.length cpd, .slice Apc TC.length cpc] 40)) = b3 at *
    obtain ⟨bkp, hbkp⟩ : ∃ b, a3.heap.size = b := ⟨_, rfl⟩
    rw [hbkp] at HTp HTpl ⊢
    clear hbkp
    obtain ⟨k0, k1, k2, k3, k4, k5, k6⟩ := HK2.out.nx Hb3.out HBK.out
    have c16 := HCs.out b3 Hb3.out
    go_wp2_with fail
    refine c16.mono ?_; rintro e a4 ⟨vn, vo, vd, vc, rfl, ⟨Aqn, cqn, rfl, rqn, _⟩, ⟨Aqo, cqo, rfl, rqo, _⟩, ⟨Aqd, cqd, rfl, rqd, _⟩, ⟨Aqc, cqc, rfl, rqc, _⟩, ha4⟩
    have hb4 := bal (Below.refl a4.heap.size a4) (.cells #[.slice Aqo TO.length cqo, .slice Aqd TD.length cqd, .slice Aqc TC.length cqc] 40)
    have htb4 := T3.new a4 (.slice Aqo TO.length cqo) (.slice Aqd TD.length cqd) (.slice Aqc TC.length cqc) 40
    have hsb4 : (a4.alloc (.cells #[.slice Aqo TO.length cqo, .slice Aqd TD.length cqd, .slice Aqc TC.length cqc] 40)).heap.size = a4.heap.size + 1 := by simp
    have Hb4 := Lib.hid (bnx (bnx Hb3.out ha4) hb4)
    have RV := Lib.hid (RV.out.nx (bnx ha4 hb4))
    have RW := Lib.hid (RW.out.nx (bnx ha4 hb4))
    have RPN := Lib.hid (RPN.out.nx (bnx ha4 hb4))
    have RPO := Lib.hid (RPO.out.nx (bnx ha4 hb4))
    have RPD := Lib.hid (RPD.out.nx (bnx ha4 hb4))
    have RPC := Lib.hid (RPC.out.nx (bnx ha4 hb4))
    have RQN := Lib.hid (rqn.nx hb4)
    have RQO := Lib.hid (rqo.nx hb4)
    have RQD := Lib.hid (rqd.nx hb4)
    have RQC := Lib.hid (rqc.nx hb4)
    have HTp := Lib.hid (HTp.out.nx (bnx ha4 hb4) HTpl.out)
    have HTpl := Lib.hid (Nat.lt_of_lt_of_le HTpl.out (bnx ha4 hb4).size)
    have HTq := Lib.hid htb4
    have HTql : Hid (a4.heap.size < (a4.alloc (.cells #[.slice Aqo TO.length cqo, .slice Aqd TD.length cqd, .slice Aqc TC.length cqc] 40)).heap.size) := Lib.hid (by simp)
    clear c16 ha4 hb4 htb4 hsb4 rqn rqo rqd rqc k0 k1 k2 k3 k4 k5 k6
    go_upto_region 15 with fail
    generalize (a4.alloc (.cells #[.slice Aqo TO.length cqo, .slice Aqd TD.length cqd, .slice Aqc TC.length cqc] 40)) = b4 at *
    obtain ⟨bkq, hbkq⟩ : ∃ b, a4.heap.size = b := ⟨_, rfl⟩
    rw [hbkq] at HTq HTql ⊢
    clear hbkq
    obtain ⟨g0, g1, g2, g3, g4, g5, g6⟩ := HK2.out.nx Hb4.out HBK.out
    have c17 := HCT.out b4 Hb4.out
    go_wp2_with fail
    refine c17.mono ?_; rintro e a5 ⟨As, cs_, rfl, rs, _, _, _, ha5⟩
    have Ha5 := Lib.hid (bnx Hb4.out ha5)
    have RV := Lib.hid (RV.out.nx ha5)
    have RW := Lib.hid (RW.out.nx ha5)
    have RPN := Lib.hid (RPN.out.nx ha5)
    have RPO := Lib.hid (RPO.out.nx ha5)
    have RPD := Lib.hid (RPD.out.nx ha5)
    have RPC := Lib.hid (RPC.out.nx ha5)
    have RQN := Lib.hid (RQN.out.nx ha5)
    have RQO := Lib.hid (RQO.out.nx ha5)
    have RQD := Lib.hid (RQD.out.nx ha5)
    have RQC := Lib.hid (RQC.out.nx ha5)
    have HTp := Lib.hid (HTp.out.nx ha5 HTpl.out)
    have HTq := Lib.hid (HTq.out.nx ha5 HTql.out)
    have HTpl := Lib.hid (Nat.lt_of_lt_of_le HTpl.out ha5.size)
    have HTql := Lib.hid (Nat.lt_of_lt_of_le HTql.out ha5.size)
    have RS := Lib.hid rs
    clear rs
    obtain ⟨k0, k1, k2, k3, k4, k5, k6⟩ := HK2.out.nx Ha5.out HBK.out
    clear c17 ha5 g0 g1 g2 g3 g4 g5 g6
    have c18 := HCt.out a5 Ha5.out
    go_wp2_with fail
    refine c18.mono ?_; rintro e a6 ⟨At, ct, rfl, rt, _, _, _, ha6⟩
    have Ha6 := Lib.hid (bnx Ha5.out ha6)
    have RV := Lib.hid (RV.out.nx ha6)
    have RW := Lib.hid (RW.out.nx ha6)
    have RPN := Lib.hid (RPN.out.nx ha6)
    have RPO := Lib.hid (RPO.out.nx ha6)
    have RPD := Lib.hid (RPD.out.nx ha6)
    have RPC := Lib.hid (RPC.out.nx ha6)
    have RQN := Lib.hid (RQN.out.nx ha6)
    have RQO := Lib.hid (RQO.out.nx ha6)
    have RQD := Lib.hid (RQD.out.nx ha6)
    have RQC := Lib.hid (RQC.out.nx ha6)
    have RS := Lib.hid (RS.out.nx ha6)
    have HTp := Lib.hid (HTp.out.nx ha6 HTpl.out)
    have HTq := Lib.hid (HTq.out.nx ha6 HTql.out)
    have HTpl := Lib.hid (Nat.lt_of_lt_of_le HTpl.out ha6.size)
    have HTql := Lib.hid (Nat.lt_of_lt_of_le HTql.out ha6.size)
    have RT := Lib.hid rt
    clear rt
    obtain ⟨g0, g1, g2, g3, g4, g5, g6⟩ := HK2.out.nx Ha6.out HBK.out
    clear c18 ha6 k0 k1 k2 k3 k4 k5 k6
    have c19 := HCR.out a6 Ha6.out
    go_wp2_with fail
    refine c19.mono ?_; rintro e a7 ⟨Ar, crr, rfl, rr, _, _, _, ha7⟩
    have Ha7 := Lib.hid (bnx Ha6.out ha7)
    have RV := Lib.hid (RV.out.nx ha7)
    have RW := Lib.hid (RW.out.nx ha7)
    have RPN := Lib.hid (RPN.out.nx ha7)
    have RPO := Lib.hid (RPO.out.nx ha7)
    have RPD := Lib.hid (RPD.out.nx ha7)
    have RPC := Lib.hid (RPC.out.nx ha7)
    have RQN := Lib.hid (RQN.out.nx ha7)
    have RQO := Lib.hid (RQO.out.nx ha7)
    have RQD := Lib.hid (RQD.out.nx ha7)
    have RQC := Lib.hid (RQC.out.nx ha7)
    have RS := Lib.hid (RS.out.nx ha7)
    have RT := Lib.hid (RT.out.nx ha7)
    have HTp := Lib.hid (HTp.out.nx ha7 HTpl.out)
    have HTq := Lib.hid (HTq.out.nx ha7 HTql.out)
    have HTpl := Lib.hid (Nat.lt_of_lt_of_le HTpl.out ha7.size)
    have HTql := Lib.hid (Nat.lt_of_lt_of_le HTql.out ha7.size)
    have RR1 := Lib.hid rr
    clear rr
    obtain ⟨k0, k1, k2, k3, k4, k5, k6⟩ := HK2.out.nx Ha7.out HBK.out
    clear c19 ha7 g0 g1 g2 g3 g4 g5 g6
    have c20 := HCr.out a7 Ha7.out
    go_wp2_with fail
    refine c20.mono ?_; rintro e a8 ⟨Aq, cq, rfl, rq, _, _, _, ha8⟩
    have Ha8 := Lib.hid (bnx Ha7.out ha8)
    have RV := Lib.hid (RV.out.nx ha8)
    have RW := Lib.hid (RW.out.nx ha8)
    have RPN := Lib.hid (RPN.out.nx ha8)
    have RPO := Lib.hid (RPO.out.nx ha8)
    have RPD := Lib.hid (RPD.out.nx ha8)
    have RPC := Lib.hid (RPC.out.nx ha8)
    have RQN := Lib.hid (RQN.out.nx ha8)
    have RQO := Lib.hid (RQO.out.nx ha8)
    have RQD := Lib.hid (RQD.out.nx ha8)
    have RQC := Lib.hid (RQC.out.nx ha8)
    have RS := Lib.hid (RS.out.nx ha8)
    have RT := Lib.hid (RT.out.nx ha8)
    have RR1 := Lib.hid (RR1.out.nx ha8)
    have HTp := Lib.hid (HTp.out.nx ha8 HTpl.out)
    have HTq := Lib.hid (HTq.out.nx ha8 HTql.out)
    have HTpl := Lib.hid (Nat.lt_of_lt_of_le HTpl.out ha8.size)
    have HTql := Lib.hid (Nat.lt_of_lt_of_le HTql.out ha8.size)
    have RR2 := Lib.hid rq
    clear rq
    obtain ⟨g0, g1, g2, g3, g4, g5, g6⟩ := HK2.out.nx Ha8.out HBK.out
    clear c20 ha8 k0 k1 k2 k3 k4 k5 k6
    have HU8 := Lib.hid Ha8.out
    clear HCV HCv HCS HCs HCT HCt HCR HCr HA2 HS2 HR2 HK2 HBK
    have hx1 : (x1 == x1) = true := by simp
    have hx2 : (x2 == x2) = true := by simp
    have hx3 : (x3 == x3) = true := by simp
    go_wp2
    go_loopg [27] 3 (fun g s wr => ∃ j : Nat, j + g = 3 ∧ s = .int .i64 j ∧ Below a8.heap.size a8 wr)
    case atStart => exact ⟨0, by omega, rfl, Below.refl _ _⟩
    case round =>
      obtain ⟨j, hj, rfl, hbel⟩ := hrel
      cases gk with
      | zero =>
        obtain rfl : j = 3 := by omega
        have HFW := Lib.hid (bnx HU8.out hbel)
        have F1 := flagsEq Av Aw cv cw TV wr (RV.out.nx hbel) (RW.out.nx hbel) (by have := HB.out; have := HBL.out; unfold maxLen; omega)
        go_wp2_with fail
        refine F1.mono ?_; rintro e f1 ⟨rfl, hf1⟩
        have B1 := bnx hbel hf1
        clear F1
        have F2 := flagsEq Apn Aqn cpn cqn TN f1 (RPN.out.nx B1) (RQN.out.nx B1) (by have := HB.out; have := HBL.out; unfold maxLen; omega)
        go_wp2_with fail
        refine F2.mono ?_; rintro e f2 ⟨rfl, hf2⟩
        have B2 := bnx B1 hf2
        clear F2
        have F3 := flagsEq As At cs_ ct TS f2 (RS.out.nx B2) (RT.out.nx B2) (by have := HB.out; have := HBL.out; unfold maxLen; omega)
        go_wp2_with fail
        refine F3.mono ?_; rintro e f3 ⟨rfl, hf3⟩
        have B3 := bnx B2 hf3
        clear F3
        have F4 := rowsEq Ar Aq crr cq TR f3 (RR1.out.nx B3) (RR2.out.nx B3) (by have := HB.out; have := HBL.out; unfold maxLen; omega)
        go_wp2_with fail
        refine F4.mono ?_; rintro e f4 ⟨rfl, hf4⟩
        have B4 := bnx B3 hf4
        clear F4
        have F5 := Lit_any Aw cw TV l f4 (RW.out.nx B4) (by have := HB.out; have := HBL.out; unfold maxLen; omega) b0 b1
        have F6 := Lib.hid (refLit_any Aw cw TV l f4 (RW.out.nx B4) (by have := HB.out; have := HBL.out; unfold maxLen; omega) b0 b1)
        generalize lt TV l = bb at *
        have hbb : (bb == bb) = true := by simp
        go_wp2_with fail
        refine F5.mono ?_; rintro e w' ⟨rfl, rfl⟩
        have F6 := F6.out
        clear F5
        go_wp2_with fail
        refine F6.mono ?_; rintro e w' ⟨rfl, rfl⟩
        have HFE := Lib.hid (HF2.out.trans ((bnx HU8.out B4).mono HF2.out.size))
        clear F6
        go_wp2
        go_ret
        exact ⟨rfl, HFE.out⟩
      | succ g =>
        have hjj : j = 0 ∨ j = 1 ∨ j = 2 := by omega
        obtain ⟨p0, p1, p2, _, _, _⟩ := HTp.out.nx hbel HTpl.out
        obtain ⟨m0, m1, m2, _, _, _⟩ := HTq.out.nx hbel HTql.out
        rcases hjj with rfl | rfl | rfl
        · have FQ : Hid (∀ n, Calls Try.prog 21 #[.slice Apo TO.length cpo, .slice Aqo TO.length cqo] (wr.drewN n) fun e w' => e = .returned (.bool true) ∧ ∃ m, w' = (wr.drewN n).drewN m) := Lib.hid fun n => flagsEqQ Apo Aqo cpo cqo TO (wr.drewN n) ((RPO.out.nx hbel).nx (drw n)) ((RQO.out.nx hbel).nx (drw n)) (by have := HB.out; have := HBL.out; unfold maxLen; omega)
          go_wp2
          go_quiet (exact Calls.quiet_of (FQ.out _))
          clear FQ
          go_wp2
          go_roundg g
          case measure => omega
          case rel => exact ⟨1, by omega, by go_num, bnx hbel (drw _)⟩
        · have FQ : Hid (∀ n, Calls Try.prog 21 #[.slice Apd TD.length cpd, .slice Aqd TD.length cqd] (wr.drewN n) fun e w' => e = .returned (.bool true) ∧ ∃ m, w' = (wr.drewN n).drewN m) := Lib.hid fun n => flagsEqQ Apd Aqd cpd cqd TD (wr.drewN n) ((RPD.out.nx hbel).nx (drw n)) ((RQD.out.nx hbel).nx (drw n)) (by have := HB.out; have := HBL.out; unfold maxLen; omega)
          go_wp2
          go_quiet (exact Calls.quiet_of (FQ.out _))
          clear FQ
          go_wp2
          go_roundg g
          case measure => omega
          case rel => exact ⟨2, by omega, by go_num, bnx hbel (drw _)⟩
        · have FQ : Hid (∀ n, Calls Try.prog 21 #[.slice Apc TC.length cpc, .slice Aqc TC.length cqc] (wr.drewN n) fun e w' => e = .returned (.bool true) ∧ ∃ m, w' = (wr.drewN n).drewN m) := Lib.hid fun n => flagsEqQ Apc Aqc cpc cqc TC (wr.drewN n) ((RPC.out.nx hbel).nx (drw n)) ((RQC.out.nx hbel).nx (drw n)) (by have := HB.out; have := HBL.out; unfold maxLen; omega)
          go_wp2
          go_quiet (exact Calls.quiet_of (FQ.out _))
          clear FQ
          go_wp2
          go_roundg g
          case measure => omega
          case rel => exact ⟨3, by omega, by go_num, bnx hbel (drw _)⟩
  · have hi2 : decide ((0 : Int) < (ins.length : Int)) = false := decide_eq_false (by omega)
    have HI2 := Lib.hid (RB.nil u2 u2.heap.size none)
    have HIN := Lib.hid (show ([] : List Bool).length ≤ 60 by simp)
    clear HA HS HR HK HU1 HU3 HS0 HB0
    have HCV : Hid (∀ wx, Below u2.heap.size u2 wx → Calls Try.prog 13 #[.agg #[.int .i64 I, .slice AL L.length cL, .slice AG G.length cG, .slice AO O.length cO, .slice AB D.length cB, .slice AC C.length cC, .slice AN N.length cN], .slice AS st.length cs, .slice none 0 0] wx (RetB0 wx (orNil (fit I L st []) (valsOf st [] G)) (errX (fit I L st [])))) := Lib.hid fun wx hx => Values_any I AL AG AO AB AC AN cL cG cO cB cC cN L G O D C N AS none cs 0 st [] wx (HA2.out.nx hx) (HS2.out.nx hx) (HI2.out.nx hx) HM.out
    have HCv : Hid (∀ wx, Below u2.heap.size u2 wx → Calls Try.prog 14 #[.agg #[.int .i64 I, .slice AL L.length cL, .slice AG G.length cG, .slice AO O.length cO, .slice AB D.length cB, .slice AC C.length cC, .slice AN N.length cN], .slice AS st.length cs, .slice none 0 0] wx (RetB0 wx (orNil (fit I L st []) (valsOf st [] G)) (errX (fit I L st [])))) := Lib.hid fun wx hx => refValues_any I AL AG AO AB AC AN cL cG cO cB cC cN L G O D C N AS none cs 0 st [] wx (HA2.out.nx hx) (HS2.out.nx hx) (HI2.out.nx hx) HZ.out (fun _ => rfl) HM.out
    have HCS : Hid (∀ wx, Below u2.heap.size u2 wx → Calls Try.prog 15 #[.agg #[.int .i64 I, .slice AL L.length cL, .slice AG G.length cG, .slice AO O.length cO, .slice AB D.length cB, .slice AC C.length cC, .slice AN N.length cN], .slice AS st.length cs, .slice none 0 0] wx (RetT wx (orNil (fit I L st []) (nextL L G st [])) (orNil (fit I L st []) (tellL O G st [])) (orNil (fit I L st []) (tellL D G st [])) (orNil (fit I L st []) (tellL C G st [])) (errX (fit I L st [])))) := Lib.hid fun wx hx => Step_any I AL AG AO AB AC AN cL cG cO cB cC cN L G O D C N AS none cs 0 st [] wx (HA2.out.nx hx) (HS2.out.nx hx) (HI2.out.nx hx) HM.out
    have HCs : Hid (∀ wx, Below u2.heap.size u2 wx → Calls Try.prog 16 #[.agg #[.int .i64 I, .slice AL L.length cL, .slice AG G.length cG, .slice AO O.length cO, .slice AB D.length cB, .slice AC C.length cC, .slice AN N.length cN], .slice AS st.length cs, .slice none 0 0] wx (RetT wx (orNil (fit I L st []) (nextL L G st [])) (orNil (fit I L st []) (tellL O G st [])) (orNil (fit I L st []) (tellL D G st [])) (orNil (fit I L st []) (tellL C G st [])) (errX (fit I L st [])))) := Lib.hid fun wx hx => refStep_any I AL AG AO AB AC AN cL cG cO cB cC cN L G O D C N AS none cs 0 st [] wx (HA2.out.nx hx) (HS2.out.nx hx) (HI2.out.nx hx) HZ.out (fun _ => rfl) HM.out
    have HB : Hid ((orNil (fit I L st []) (valsOf st [] G)).length ≤ 1000 ∧ (orNil (fit I L st []) (nextL L G st [])).length ≤ 1000 ∧ (orNil (fit I L st []) (tellL O G st [])).length ≤ 1000 ∧ (orNil (fit I L st []) (tellL D G st [])).length ≤ 1000 ∧ (orNil (fit I L st []) (tellL C G st [])).length ≤ 1000) := Lib.hid (by
      have := HX.out
      have e1 := valsOf_length st [] G
      have e2 := HIN.out
      cases fit I L st [] <;> simp [orNil, nextL, tellL, e1] <;> omega)
    clear HX HIN HM HI2
    generalize orNil (fit I L st []) (valsOf st [] G) = TV at *
    generalize orNil (fit I L st []) (nextL L G st []) = TN at *
    generalize orNil (fit I L st []) (tellL O G st []) = TO at *
    generalize orNil (fit I L st []) (tellL D G st []) = TD at *
    generalize orNil (fit I L st []) (tellL C G st []) = TC at *
    generalize errX (fit I L st []) = x1 at *
    have c13 := HCV.out u2 HU0.out
    go_wp2_with fail
    refine c13.mono ?_; rintro e a1 ⟨Av, cv, rfl, rv, zv, nv, mv, ha1⟩
    have Ha1 := Lib.hid (bnx HU0.out ha1)
    have RV := Lib.hid (And.intro rv (And.intro zv (And.intro nv mv)))
    clear rv zv nv mv
    obtain ⟨k0, k1, k2, k3, k4, k5, k6⟩ := HK2.out.nx Ha1.out HBK.out
    clear c13 ha1 g0 g1 g2 g3 g4 g5 g6
    have c14 := HCv.out a1 Ha1.out
    go_wp2_with fail
    refine c14.mono ?_; rintro e a2 ⟨Aw, cw, rfl, rw_, zw, nw, mw, ha2⟩
    have Ha2 := Lib.hid (bnx Ha1.out ha2)
    have RV := Lib.hid (RV.out.1.nx ha2)
    have RW := Lib.hid rw_
    clear rw_ zw nw mw
    obtain ⟨g0, g1, g2, g3, g4, g5, g6⟩ := HK2.out.nx Ha2.out HBK.out
    clear c14 ha2 k0 k1 k2 k3 k4 k5 k6
    have c15 := HCS.out a2 Ha2.out
    go_wp2_with fail
    refine c15.mono ?_; rintro e a3 ⟨vn, vo, vd, vc, rfl, ⟨Apn, cpn, rfl, rpn, _⟩, ⟨Apo, cpo, rfl, rpo, _⟩, ⟨Apd, cpd, rfl, rpd, _⟩, ⟨Apc, cpc, rfl, rpc, _⟩, ha3⟩
    have hb3 := bal (Below.refl a3.heap.size a3) (.cells #[.slice Apo TO.length cpo, .slice Apd TD.length cpd, .slice Apc TC.length cpc] 40)
    have htb3 := T3.new a3 (.slice Apo TO.length cpo) (.slice Apd TD.length cpd) (.slice Apc TC.length cpc) 40
    have hsb3 : (a3.alloc (.cells #[.slice Apo TO.length cpo, .slice Apd TD.length cpd, .slice Apc TC.length cpc] 40)).heap.size = a3.heap.size + 1 := by simp
    have Hb3 := Lib.hid (bnx (bnx Ha2.out ha3) hb3)
    have RV := Lib.hid (RV.out.nx (bnx ha3 hb3))
    have RW := Lib.hid (RW.out.nx (bnx ha3 hb3))
    have RPN := Lib.hid (rpn.nx hb3)
    have RPO := Lib.hid (rpo.nx hb3)
    have RPD := Lib.hid (rpd.nx hb3)
    have RPC := Lib.hid (rpc.nx hb3)
    have HTp := Lib.hid htb3
    have HTpl : Hid (a3.heap.size < (a3.alloc (.cells #[.slice Apo TO.length cpo, .slice Apd TD.length cpd, .slice Apc TC.length cpc] 40)).heap.size) := Lib.hid (by simp)
    clear c15 ha3 hb3 htb3 hsb3 rpn rpo rpd rpc g0 g1 g2 g3 g4 g5 g6
    go_upto_region 14 with fail
    generalize (a3.alloc (.cells #[.slice Apo TO.length cpo, .slice Apd TD.length cpd, .slice Apc TC.length cpc] 40)) = b3 at *
    obtain ⟨bkp, hbkp⟩ : ∃ b, a3.heap.size = b := ⟨_, rfl⟩
    rw [hbkp] at HTp HTpl ⊢
    clear hbkp
    obtain ⟨k0, k1, k2, k3, k4, k5, k6⟩ := HK2.out.nx Hb3.out HBK.out
    have c16 := HCs.out b3 Hb3.out
    go_wp2_with fail
    refine c16.mono ?_; rintro e a4 ⟨vn, vo, vd, vc, rfl, ⟨Aqn, cqn, rfl, rqn, _⟩, ⟨Aqo, cqo, rfl, rqo, _⟩, ⟨Aqd, cqd, rfl, rqd, _⟩, ⟨Aqc, cqc, rfl, rqc, _⟩, ha4⟩
    have hb4 := bal (Below.refl a4.heap.size a4) (.cells #[.slice Aqo TO.length cqo, .slice Aqd TD.length cqd, .slice Aqc TC.length cqc] 40)
    have htb4 := T3.new a4 (.slice Aqo TO.length cqo) (.slice Aqd TD.length cqd) (.slice Aqc TC.length cqc) 40
    have hsb4 : (a4.alloc (.cells #[.slice Aqo TO.length cqo, .slice Aqd TD.length cqd, .slice Aqc TC.length cqc] 40)).heap.size = a4.heap.size + 1 := by simp
    have Hb4 := Lib.hid (bnx (bnx Hb3.out ha4) hb4)
    have RV := Lib.hid (RV.out.nx (bnx ha4 hb4))
    have RW := Lib.hid (RW.out.nx (bnx ha4 hb4))
    have RPN := Lib.hid (RPN.out.nx (bnx ha4 hb4))
    have RPO := Lib.hid (RPO.out.nx (bnx ha4 hb4))
    have RPD := Lib.hid (RPD.out.nx (bnx ha4 hb4))
    have RPC := Lib.hid (RPC.out.nx (bnx ha4 hb4))
    have RQN := Lib.hid (rqn.nx hb4)
    have RQO := Lib.hid (rqo.nx hb4)
    have RQD := Lib.hid (rqd.nx hb4)
    have RQC := Lib.hid (rqc.nx hb4)
    have HTp := Lib.hid (HTp.out.nx (bnx ha4 hb4) HTpl.out)
    have HTpl := Lib.hid (Nat.lt_of_lt_of_le HTpl.out (bnx ha4 hb4).size)
    have HTq := Lib.hid htb4
    have HTql : Hid (a4.heap.size < (a4.alloc (.cells #[.slice Aqo TO.length cqo, .slice Aqd TD.length cqd, .slice Aqc TC.length cqc] 40)).heap.size) := Lib.hid (by simp)
    clear c16 ha4 hb4 htb4 hsb4 rqn rqo rqd rqc k0 k1 k2 k3 k4 k5 k6
    go_upto_region 15 with fail
    generalize (a4.alloc (.cells #[.slice Aqo TO.length cqo, .slice Aqd TD.length cqd, .slice Aqc TC.length cqc] 40)) = b4 at *
    obtain ⟨bkq, hbkq⟩ : ∃ b, a4.heap.size = b := ⟨_, rfl⟩
    rw [hbkq] at HTq HTql ⊢
    clear hbkq
    obtain ⟨g0, g1, g2, g3, g4, g5, g6⟩ := HK2.out.nx Hb4.out HBK.out
    have c17 := HCT.out b4 Hb4.out
    go_wp2_with fail
    refine c17.mono ?_; rintro e a5 ⟨As, cs_, rfl, rs, _, _, _, ha5⟩
    have Ha5 := Lib.hid (bnx Hb4.out ha5)
    have RV := Lib.hid (RV.out.nx ha5)
    have RW := Lib.hid (RW.out.nx ha5)
    have RPN := Lib.hid (RPN.out.nx ha5)
    have RPO := Lib.hid (RPO.out.nx ha5)
    have RPD := Lib.hid (RPD.out.nx ha5)
    have RPC := Lib.hid (RPC.out.nx ha5)
    have RQN := Lib.hid (RQN.out.nx ha5)
    have RQO := Lib.hid (RQO.out.nx ha5)
    have RQD := Lib.hid (RQD.out.nx ha5)
    have RQC := Lib.hid (RQC.out.nx ha5)
    have HTp := Lib.hid (HTp.out.nx ha5 HTpl.out)
    have HTq := Lib.hid (HTq.out.nx ha5 HTql.out)
    have HTpl := Lib.hid (Nat.lt_of_lt_of_le HTpl.out ha5.size)
    have HTql := Lib.hid (Nat.lt_of_lt_of_le HTql.out ha5.size)
    have RS := Lib.hid rs
    clear rs
    obtain ⟨k0, k1, k2, k3, k4, k5, k6⟩ := HK2.out.nx Ha5.out HBK.out
    clear c17 ha5 g0 g1 g2 g3 g4 g5 g6
    have c18 := HCt.out a5 Ha5.out
    go_wp2_with fail
    refine c18.mono ?_; rintro e a6 ⟨At, ct, rfl, rt, _, _, _, ha6⟩
    have Ha6 := Lib.hid (bnx Ha5.out ha6)
    have RV := Lib.hid (RV.out.nx ha6)
    have RW := Lib.hid (RW.out.nx ha6)
    have RPN := Lib.hid (RPN.out.nx ha6)
    have RPO := Lib.hid (RPO.out.nx ha6)
    have RPD := Lib.hid (RPD.out.nx ha6)
    have RPC := Lib.hid (RPC.out.nx ha6)
    have RQN := Lib.hid (RQN.out.nx ha6)
    have RQO := Lib.hid (RQO.out.nx ha6)
    have RQD := Lib.hid (RQD.out.nx ha6)
    have RQC := Lib.hid (RQC.out.nx ha6)
    have RS := Lib.hid (RS.out.nx ha6)
    have HTp := Lib.hid (HTp.out.nx ha6 HTpl.out)
    have HTq := Lib.hid (HTq.out.nx ha6 HTql.out)
    have HTpl := Lib.hid (Nat.lt_of_lt_of_le HTpl.out ha6.size)
    have HTql := Lib.hid (Nat.lt_of_lt_of_le HTql.out ha6.size)
    have RT := Lib.hid rt
    clear rt
    obtain ⟨g0, g1, g2, g3, g4, g5, g6⟩ := HK2.out.nx Ha6.out HBK.out
    clear c18 ha6 k0 k1 k2 k3 k4 k5 k6
    have c19 := HCR.out a6 Ha6.out
    go_wp2_with fail
    refine c19.mono ?_; rintro e a7 ⟨Ar, crr, rfl, rr, _, _, _, ha7⟩
    have Ha7 := Lib.hid (bnx Ha6.out ha7)
    have RV := Lib.hid (RV.out.nx ha7)
    have RW := Lib.hid (RW.out.nx ha7)
    have RPN := Lib.hid (RPN.out.nx ha7)
    have RPO := Lib.hid (RPO.out.nx ha7)
    have RPD := Lib.hid (RPD.out.nx ha7)
    have RPC := Lib.hid (RPC.out.nx ha7)
    have RQN := Lib.hid (RQN.out.nx ha7)
    have RQO := Lib.hid (RQO.out.nx ha7)
    have RQD := Lib.hid (RQD.out.nx ha7)
    have RQC := Lib.hid (RQC.out.nx ha7)
    have RS := Lib.hid (RS.out.nx ha7)
    have RT := Lib.hid (RT.out.nx ha7)
    have HTp := Lib.hid (HTp.out.nx ha7 HTpl.out)
    have HTq := Lib.hid (HTq.out.nx ha7 HTql.out)
    have HTpl := Lib.hid (Nat.lt_of_lt_of_le HTpl.out ha7.size)
    have HTql := Lib.hid (Nat.lt_of_lt_of_le HTql.out ha7.size)
    have RR1 := Lib.hid rr
    clear rr
    obtain ⟨k0, k1, k2, k3, k4, k5, k6⟩ := HK2.out.nx Ha7.out HBK.out
    clear c19 ha7 g0 g1 g2 g3 g4 g5 g6
    have c20 := HCr.out a7 Ha7.out
    go_wp2_with fail
    refine c20.mono ?_; rintro e a8 ⟨Aq, cq, rfl, rq, _, _, _, ha8⟩
    have Ha8 := Lib.hid (bnx Ha7.out ha8)
    have RV := Lib.hid (RV.out.nx ha8)
    have RW := Lib.hid (RW.out.nx ha8)
    have RPN := Lib.hid (RPN.out.nx ha8)
    have RPO := Lib.hid (RPO.out.nx ha8)
    have RPD := Lib.hid (RPD.out.nx ha8)
    have RPC := Lib.hid (RPC.out.nx ha8)
    have RQN := Lib.hid (RQN.out.nx ha8)
    have RQO := Lib.hid (RQO.out.nx ha8)
    have RQD := Lib.hid (RQD.out.nx ha8)
    have RQC := Lib.hid (RQC.out.nx ha8)
    have RS := Lib.hid (RS.out.nx ha8)
    have RT := Lib.hid (RT.out.nx ha8)
    have RR1 := Lib.hid (RR1.out.nx ha8)
    have HTp := Lib.hid (HTp.out.nx ha8 HTpl.out)
    have HTq := Lib.hid (HTq.out.nx ha8 HTql.out)
    have HTpl := Lib.hid (Nat.lt_of_lt_of_le HTpl.out ha8.size)
    have HTql := Lib.hid (Nat.lt_of_lt_of_le HTql.out ha8.size)
    have RR2 := Lib.hid rq
    clear rq
    obtain ⟨g0, g1, g2, g3, g4, g5, g6⟩ := HK2.out.nx Ha8.out HBK.out
    clear c20 ha8 k0 k1 k2 k3 k4 k5 k6
    have HU8 := Lib.hid Ha8.out
    clear HCV HCv HCS HCs HCT HCt HCR HCr HA2 HS2 HR2 HK2 HBK
    have hx1 : (x1 == x1) = true := by simp
    have hx2 : (x2 == x2) = true := by simp
    have hx3 : (x3 == x3) = true := by simp
    go_wp2
    go_loopg [27] 3 (fun g s wr => ∃ j : Nat, j + g = 3 ∧ s = .int .i64 j ∧ Below a8.heap.size a8 wr)
    case atStart => exact ⟨0, by omega, rfl, Below.refl _ _⟩
    case round =>
      obtain ⟨j, hj, rfl, hbel⟩ := hrel
      cases gk with
      | zero =>
        obtain rfl : j = 3 := by omega
        have HFW := Lib.hid (bnx HU8.out hbel)
        have F1 := flagsEq Av Aw cv cw TV wr (RV.out.nx hbel) (RW.out.nx hbel) (by have := HB.out; have := HBL.out; unfold maxLen; omega)
        go_wp2_with fail
        refine F1.mono ?_; rintro e f1 ⟨rfl, hf1⟩
        have B1 := bnx hbel hf1
        clear F1
        have F2 := flagsEq Apn Aqn cpn cqn TN f1 (RPN.out.nx B1) (RQN.out.nx B1) (by have := HB.out; have := HBL.out; unfold maxLen; omega)
        go_wp2_with fail
        refine F2.mono ?_; rintro e f2 ⟨rfl, hf2⟩
        have B2 := bnx B1 hf2
        clear F2
        have F3 := flagsEq As At cs_ ct TS f2 (RS.out.nx B2) (RT.out.nx B2) (by have := HB.out; have := HBL.out; unfold maxLen; omega)
        go_wp2_with fail
        refine F3.mono ?_; rintro e f3 ⟨rfl, hf3⟩
        have B3 := bnx B2 hf3
        clear F3
        have F4 := rowsEq Ar Aq crr cq TR f3 (RR1.out.nx B3) (RR2.out.nx B3) (by have := HB.out; have := HBL.out; unfold maxLen; omega)
        go_wp2_with fail
        refine F4.mono ?_; rintro e f4 ⟨rfl, hf4⟩
        have B4 := bnx B3 hf4
        clear F4
        have F5 := Lit_any Aw cw TV l f4 (RW.out.nx B4) (by have := HB.out; have := HBL.out; unfold maxLen; omega) b0 b1
        have F6 := Lib.hid (refLit_any Aw cw TV l f4 (RW.out.nx B4) (by have := HB.out; have := HBL.out; unfold maxLen; omega) b0 b1)
        generalize lt TV l = bb at *
        have hbb : (bb == bb) = true := by simp
        go_wp2_with fail
        refine F5.mono ?_; rintro e w' ⟨rfl, rfl⟩
        have F6 := F6.out
        clear F5
        go_wp2_with fail
        refine F6.mono ?_; rintro e w' ⟨rfl, rfl⟩
        have HFE := Lib.hid (HF2.out.trans ((bnx HU8.out B4).mono HF2.out.size))
        clear F6
        go_wp2
        go_ret
        exact ⟨rfl, HFE.out⟩
      | succ g =>
        have hjj : j = 0 ∨ j = 1 ∨ j = 2 := by omega
        obtain ⟨p0, p1, p2, _, _, _⟩ := HTp.out.nx hbel HTpl.out
        obtain ⟨m0, m1, m2, _, _, _⟩ := HTq.out.nx hbel HTql.out
        rcases hjj with rfl | rfl | rfl
        · have FQ : Hid (∀ n, Calls Try.prog 21 #[.slice Apo TO.length cpo, .slice Aqo TO.length cqo] (wr.drewN n) fun e w' => e = .returned (.bool true) ∧ ∃ m, w' = (wr.drewN n).drewN m) := Lib.hid fun n => flagsEqQ Apo Aqo cpo cqo TO (wr.drewN n) ((RPO.out.nx hbel).nx (drw n)) ((RQO.out.nx hbel).nx (drw n)) (by have := HB.out; have := HBL.out; unfold maxLen; omega)
          go_wp2
          go_quiet (exact Calls.quiet_of (FQ.out _))
          clear FQ
          go_wp2
          go_roundg g
          case measure => omega
          case rel => exact ⟨1, by omega, by go_num, bnx hbel (drw _)⟩
        · have FQ : Hid (∀ n, Calls Try.prog 21 #[.slice Apd TD.length cpd, .slice Aqd TD.length cqd] (wr.drewN n) fun e w' => e = .returned (.bool true) ∧ ∃ m, w' = (wr.drewN n).drewN m) := Lib.hid fun n => flagsEqQ Apd Aqd cpd cqd TD (wr.drewN n) ((RPD.out.nx hbel).nx (drw n)) ((RQD.out.nx hbel).nx (drw n)) (by have := HB.out; have := HBL.out; unfold maxLen; omega)
          go_wp2
          go_quiet (exact Calls.quiet_of (FQ.out _))
          clear FQ
          go_wp2
          go_roundg g
          case measure => omega
          case rel => exact ⟨2, by omega, by go_num, bnx hbel (drw _)⟩
        · have FQ : Hid (∀ n, Calls Try.prog 21 #[.slice Apc TC.length cpc, .slice Aqc TC.length cqc] (wr.drewN n) fun e w' => e = .returned (.bool true) ∧ ∃ m, w' = (wr.drewN n).drewN m) := Lib.hid fun n => flagsEqQ Apc Aqc cpc cqc TC (wr.drewN n) ((RPC.out.nx hbel).nx (drw n)) ((RQC.out.nx hbel).nx (drw n)) (by have := HB.out; have := HBL.out; unfold maxLen; omega)
          go_wp2
          go_quiet (exact Calls.quiet_of (FQ.out _))
          clear FQ
          go_wp2
          go_roundg g
          case measure => omega
          case rel => exact ⟨3, by omega, by go_num, bnx hbel (drw _)⟩
end Go.Proofs.Ytkdocjcpehmljaa
