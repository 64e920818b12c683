/-
  One statement's walk: TernSteps.
-/
import Derived.Test.YtekopdfnblfldaaDoorProg
import Derived.WalkKit
import Derived.WalkSpells
import Derived.WalkLawsBesides
import Derived.Lib.Hide
import Derived.BigQuiet
import Derived.Deep.QuietTactic
import Derived.Deep.RegionWith
import Derived.Deep.RegionHeld3
import Derived.Test.YtekopdfnblfldaaDoorQ19
set_option linter.unusedVariables false
namespace Go.Proofs.YtekopdfnblfldaaDoor
open Go.RowKit
theorem sameQ (A A' : Option Addr) (c c' : Nat) (l : List Int) (w : World) (h : RT w w.heap.size A l) (h' : RT w w.heap.size A' l) (hn : l.length ≤ maxLen) :
    Calls Tryd.prog 26 #[.slice A l.length c, .slice A' l.length c'] w fun e w' => e = .returned (.bool true) ∧ ∃ n, w' = w.drewN n := by
  have := Same_q A A' c c' l l w h h' hn
  rwa [show (l == l) = true by simp] at this
theorem sameT (A A' : Option Addr) (c c' : Nat) (l : List Int) (w : World) (h : RT w w.heap.size A l) (h' : RT w w.heap.size A' l) (hn : l.length ≤ maxLen) :
    Calls Tryd.prog 26 #[.slice A l.length c, .slice A' l.length c'] w (RetV w (.bool true)) := by
  have := Same_any A A' c c' l l w h h' hn
  rwa [show (l == l) = true by simp] at this
set_option maxRecDepth 100000 in
set_option maxHeartbeats 8000000 in
theorem steps_any (I : Int) (AL AG AO AB AC AN : Option Addr) (cL cG cO cB cC cN : Nat) (L G : List Pr) (O D C : List Int) (N : List Nm) (AS AI : Option Addr) (cs ci : Nat) (st inp : List Int) (l : Int) (w : World) (hT : TB w) (hA : RA w w.heap.size AL AG AO AB AC AN L G O D C N) (lO : O.length ≤ maxLen) (lD : D.length ≤ maxLen) (lC : C.length ≤ maxLen) (lN : N.length ≤ maxLen)
    (hS : RT w w.heap.size AS st) (hI : RT w w.heap.size AI inp) (nS : st.length ≤ cs) (mS : cs ≤ maxLen) (zS : AS = none → cs = 0) (nI : inp.length ≤ ci) (mI : ci ≤ maxLen) (zI : AI = none → ci = 0) (nnS : Nn st) (nnI : Nn inp) (b0 : -9223372036854775808 ≤ l) (b1 : l ≤ 9223372036854775807) :
    Calls Tryd.prog 4 #[.agg #[.int .i64 I, .slice AL L.length cL, .slice AG G.length cG, .slice AO O.length cO, .slice AB D.length cB, .slice AC C.length cC, .slice AN N.length cN, .slice AS st.length cs, .slice AI inp.length ci, .int .i64 l]] w (RetV w (.bool true)) := by
  have hb := bal (bal (Below.refl w.heap.size w) (.cells #[.int .i64 I, .slice AL L.length cL, .slice AG G.length cG, .slice AO O.length cO, .slice AB D.length cB, .slice AC C.length cC, .slice AN N.length cN, .slice AS st.length cs, .slice AI inp.length ci, .int .i64 l] 37)) (.cells #[.int .i64 I, .slice AL L.length cL, .slice AG G.length cG, .slice AO O.length cO, .slice AB D.length cB, .slice AC C.length cC, .slice AN N.length cN] 35)
  have hk : KA ((w.alloc (.cells #[.int .i64 I, .slice AL L.length cL, .slice AG G.length cG, .slice AO O.length cO, .slice AB D.length cB, .slice AC C.length cC, .slice AN N.length cN, .slice AS st.length cs, .slice AI inp.length ci, .int .i64 l] 37)).alloc (.cells #[.int .i64 I, .slice AL L.length cL, .slice AG G.length cG, .slice AO O.length cO, .slice AB D.length cB, .slice AC C.length cC, .slice AN N.length cN] 35)) (w.heap.size + 1) I AL AG AO AB AC AN cL cG cO cB cC cN L G O D C N := by constructor <;> go_simp
  have hs0 : ((w.alloc (.cells #[.int .i64 I, .slice AL L.length cL, .slice AG G.length cG, .slice AO O.length cO, .slice AB D.length cB, .slice AC C.length cC, .slice AN N.length cN, .slice AS st.length cs, .slice AI inp.length ci, .int .i64 l] 37)).alloc (.cells #[.int .i64 I, .slice AL L.length cL, .slice AG G.length cG, .slice AO O.length cO, .slice AB D.length cB, .slice AC C.length cC, .slice AN N.length cN] 35)).heap.size = w.heap.size + 2 := by simp
  have CSH := shown_any ((w.alloc (.cells #[.int .i64 I, .slice AL L.length cL, .slice AG G.length cG, .slice AO O.length cO, .slice AB D.length cB, .slice AC C.length cC, .slice AN N.length cN, .slice AS st.length cs, .slice AI inp.length ci, .int .i64 l] 37)).alloc (.cells #[.int .i64 I, .slice AL L.length cL, .slice AG G.length cG, .slice AO O.length cO, .slice AB D.length cB, .slice AC C.length cC, .slice AN N.length cN] 35)) (hT.nx hb)
  have HTB := Lib.hid (hT.nx hb)
  have HA := Lib.hid (hA.nx hb)
  have RS := Lib.hid (hS.nx hb)
  have RI_ := Lib.hid (hI.nx hb)
  have HS0 := Lib.hid hs0
  have HB := Lib.hid hb
  have HKX0 := Lib.hid hk
  have CM := May9_any I AL AG AO AB AC AN cL cG cO cB cC cN L G O D C N
  have HCM := Lib.hid (fun wx h => CM wx h lO lD lC lN)
  have HLL := Lib.hid (show st.length ≤ maxLen ∧ inp.length ≤ maxLen by omega)
  have HNN := Lib.hid (And.intro nnS nnI)
  have HZ := Lib.hid (And.intro zS zI)
  have ms : st.length ≤ 9223372036854775807 := by unfold maxLen at mS; omega
  have mi : inp.length ≤ 9223372036854775807 := by unfold maxLen at mI; omega
  clear hA hb hk hs0 hS hI CM lO lD lC lN hT nS mS nI mI nnS nnI zS zI
  go_enter Tryd.func4, Tryd.ntmps4
  go_wp2_with fail
  refine CSH.mono ?_; rintro e u1 ⟨rfl, hu1⟩
  generalize ((w.alloc (.cells #[.int .i64 I, .slice AL L.length cL, .slice AG G.length cG, .slice AO O.length cO, .slice AB D.length cB, .slice AC C.length cC, .slice AN N.length cN, .slice AS st.length cs, .slice AI inp.length ci, .int .i64 l] 37)).alloc (.cells #[.int .i64 I, .slice AL L.length cL, .slice AG G.length cG, .slice AO O.length cO, .slice AB D.length cB, .slice AC C.length cC, .slice AN N.length cN] 35)) = w0 at *
  have HKX : Hid (∀ wx, Below w0.heap.size w0 wx → KA wx (w.heap.size + 1) I AL AG AO AB AC AN cL cG cO cB cC cN L G O D C N) := Lib.hid fun wx hx => HKX0.out.nx hx (by have := HS0.out; omega)
  have Hu1 := Lib.hid hu1
  have FIN : Hid (∀ wx, Below w0.heap.size w0 wx → Below w.heap.size w wx) := Lib.hid fun wx hx => HB.out.trans (hx.mono HB.out.size)
  clear CSH hu1 HKX0 HB HS0
  obtain ⟨k0, k1, k2, k3, k4, k5, k6⟩ := HKX.out u1 Hu1.out
  have C1 := HCM.out u1 (HA.out.nx Hu1.out)
  go_wp2_with fail
  refine C1.mono ?_; rintro e u2 ⟨bm, rfl, pm, hu2⟩
  have Hu2 := Lib.hid (bnx Hu1.out hu2)
  have HP := Lib.hid pm
  clear C1 hu2 pm HCM k0 k1 k2 k3 k4 k5 k6
  cases bm
  · go_wp2
    go_ret
    exact ⟨rfl, FIN.out _ Hu2.out⟩
  have hMd := HP.out rfl
  have HMd := Lib.hid hMd.1
  have HX := Lib.hid hMd.2
  clear HP hMd
  by_cases q0 : 60 < st.length
  · have d0 : decide (60 < st.length) = true := decide_eq_true q0
    have f0 : decide ((60 : Int) < (st.length : Int)) = true := decide_eq_true (by omega)
    go_wp2
    go_ret
    exact ⟨rfl, FIN.out _ Hu2.out⟩
  have d0 : decide (60 < st.length) = false := decide_eq_false q0
  have f0 : decide ((60 : Int) < (st.length : Int)) = false := decide_eq_false (by omega)
  by_cases q1 : 60 < inp.length
  · have d1 : decide (60 < inp.length) = true := decide_eq_true q1
    have f1 : decide ((60 : Int) < (inp.length : Int)) = true := decide_eq_true (by omega)
    go_wp2
    go_ret
    exact ⟨rfl, FIN.out _ Hu2.out⟩
  have d1 : decide (60 < inp.length) = false := decide_eq_false q1
  have f1 : decide ((60 : Int) < (inp.length : Int)) = false := decide_eq_false (by omega)
  have HVa : Hid (∀ wx, Below w0.heap.size w0 wx → Calls Tryd.prog 22 #[.agg #[.int .i64 I, .slice AL L.length cL, .slice AG G.length cG, .slice AO O.length cO, .slice AB D.length cB, .slice AC C.length cC, .slice AN N.length cN], .slice AS st.length cs, .slice AI inp.length ci] wx (RetR0 wx (orNil (fit3 I L st inp) (valsOf3 st inp G)) (errX (fit3 I L st inp)))) := Lib.hid fun wx hx => Values3_any I AL AG AO AB AC AN cL cG cO cB cC cN L G O D C N AS AI cs ci st inp wx (HTB.out.nx hx) (HA.out.nx hx) (RS.out.nx hx) (RI_.out.nx hx) HNN.out.1 HNN.out.2 HLL.out.1 HLL.out.2 HMd.out
  have HVb : Hid (∀ wx, Below w0.heap.size w0 wx → Calls Tryd.prog 23 #[.agg #[.int .i64 I, .slice AL L.length cL, .slice AG G.length cG, .slice AO O.length cO, .slice AB D.length cB, .slice AC C.length cC, .slice AN N.length cN], .slice AS st.length cs, .slice AI inp.length ci] wx (RetR0 wx (orNil (fit3 I L st inp) (valsOf3 st inp G)) (errX (fit3 I L st inp)))) := Lib.hid fun wx hx => refValues3_any I AL AG AO AB AC AN cL cG cO cB cC cN L G O D C N AS AI cs ci st inp wx (HA.out.nx hx) (RS.out.nx hx) (RI_.out.nx hx) HZ.out.1 HZ.out.2 HLL.out.1 HLL.out.2 HMd.out
  have HSa : Hid (∀ wx, Below w0.heap.size w0 wx → Calls Tryd.prog 24 #[.agg #[.int .i64 I, .slice AL L.length cL, .slice AG G.length cG, .slice AO O.length cO, .slice AB D.length cB, .slice AC C.length cC, .slice AN N.length cN], .slice AS st.length cs, .slice AI inp.length ci] wx (RetS3 wx (orNil (fit3 I L st inp) (nextL3 L G st inp)) (orNil (fit3 I L st inp) (tellL3 O G st inp)) (orNil (fit3 I L st inp) (tellL3 D G st inp)) (orNil (fit3 I L st inp) (tellL3 C G st inp)) (errX (fit3 I L st inp)))) := Lib.hid fun wx hx => Step3_any I AL AG AO AB AC AN cL cG cO cB cC cN L G O D C N AS AI cs ci st inp wx (HTB.out.nx hx) (HA.out.nx hx) (RS.out.nx hx) (RI_.out.nx hx) HNN.out.1 HNN.out.2 HLL.out.1 HLL.out.2 HMd.out
  have HSb : Hid (∀ wx, Below w0.heap.size w0 wx → Calls Tryd.prog 25 #[.agg #[.int .i64 I, .slice AL L.length cL, .slice AG G.length cG, .slice AO O.length cO, .slice AB D.length cB, .slice AC C.length cC, .slice AN N.length cN], .slice AS st.length cs, .slice AI inp.length ci] wx (RetS3 wx (orNil (fit3 I L st inp) (nextL3 L G st inp)) (orNil (fit3 I L st inp) (tellL3 O G st inp)) (orNil (fit3 I L st inp) (tellL3 D G st inp)) (orNil (fit3 I L st inp) (tellL3 C G st inp)) (errX (fit3 I L st inp)))) := Lib.hid fun wx hx => refStep3_any I AL AG AO AB AC AN cL cG cO cB cC cN L G O D C N AS AI cs ci st inp wx (HA.out.nx hx) (RS.out.nx hx) (RI_.out.nx hx) HZ.out.1 HZ.out.2 HLL.out.1 HLL.out.2 HMd.out
  have HL : Hid ((orNil (fit3 I L st inp) (valsOf3 st inp G)).length ≤ maxLen ∧ (orNil (fit3 I L st inp) (nextL3 L G st inp)).length ≤ maxLen ∧ (orNil (fit3 I L st inp) (tellL3 O G st inp)).length ≤ maxLen ∧ (orNil (fit3 I L st inp) (tellL3 D G st inp)).length ≤ maxLen ∧ (orNil (fit3 I L st inp) (tellL3 C G st inp)).length ≤ maxLen) := Lib.hid (by
    have := HX.out
    have e1 := valsOf3_length st inp G
    unfold maxLen
    cases fit3 I L st inp <;> simp [orNil, nextL3, tellL3, e1] <;> omega)
  clear HTB HA RS RI_ HMd HX HNN HLL HZ
  generalize orNil (fit3 I L st inp) (valsOf3 st inp G) = TV at *
  generalize orNil (fit3 I L st inp) (nextL3 L G st inp) = TN at *
  generalize orNil (fit3 I L st inp) (tellL3 O G st inp) = TO at *
  generalize orNil (fit3 I L st inp) (tellL3 D G st inp) = TD at *
  generalize orNil (fit3 I L st inp) (tellL3 C G st inp) = TC at *
  generalize errX (fit3 I L st inp) = xe at *
  obtain ⟨k0, k1, k2, k3, k4, k5, k6⟩ := HKX.out u2 Hu2.out
  have c := HVa.out u2 Hu2.out
  go_wp2_with fail
  refine c.mono ?_; rintro e aa ⟨AVa, cVa, rfl, rv, _, _, _, ha⟩
  have Haa := Lib.hid (bnx Hu2.out ha)
  have RVa := Lib.hid rv
  clear c rv ha k0 k1 k2 k3 k4 k5 k6
  obtain ⟨k0, k1, k2, k3, k4, k5, k6⟩ := HKX.out aa Haa.out
  have c := HVb.out aa Haa.out
  go_wp2_with fail
  refine c.mono ?_; rintro e ab ⟨AVb, cVb, rfl, rv, _, _, _, ha⟩
  have Hab := Lib.hid (bnx Haa.out ha)
  have RVa := Lib.hid (RVa.out.nx ha)
  have RVb := Lib.hid rv
  clear c rv ha k0 k1 k2 k3 k4 k5 k6
  obtain ⟨k0, k1, k2, k3, k4, k5, k6⟩ := HKX.out ab Hab.out
  have c := HSa.out ab Hab.out
  go_wp2_with fail
  refine c.mono ?_; rintro e ba ⟨vn, vo, vd, vc, rfl, ⟨Ana, cna, rfl, rn, _⟩, ⟨Aoa, coa, rfl, ro, _⟩, ⟨Ada, cda, rfl, rd, _⟩, ⟨Aca, cca, rfl, rc, _⟩, hb⟩
  have hx := bal (Below.refl ba.heap.size ba) (.cells #[.slice Aoa TO.length coa, .slice Ada TD.length cda, .slice Aca TC.length cca] 44)
  have ht := T3.new ba (.slice Aoa TO.length coa) (.slice Ada TD.length cda) (.slice Aca TC.length cca) 44
  have hl : ba.heap.size < (ba.alloc (.cells #[.slice Aoa TO.length coa, .slice Ada TD.length cda, .slice Aca TC.length cca] 44)).heap.size := by simp
  have Hza := Lib.hid (bnx (bnx Hab.out hb) hx)
  have RVa := Lib.hid (RVa.out.nx (bnx hb hx))
  have RVb := Lib.hid (RVb.out.nx (bnx hb hx))
  have RNa := Lib.hid (rn.nx hx)
  have ROa := Lib.hid (ro.nx hx)
  have RDa := Lib.hid (rd.nx hx)
  have RCa := Lib.hid (rc.nx hx)
  have HTa := Lib.hid ht
  have HLa := Lib.hid hl
  clear c hb hx ht hl rn ro rd rc k0 k1 k2 k3 k4 k5 k6
  go_upto_region 11 with fail
  generalize ba.alloc (.cells #[.slice Aoa TO.length coa, .slice Ada TD.length cda, .slice Aca TC.length cca] 44) = za at *
  obtain ⟨ga, hga⟩ : ∃ b, ba.heap.size = b := ⟨_, rfl⟩
  rw [hga] at HTa HLa ⊢
  clear hga
  obtain ⟨k0, k1, k2, k3, k4, k5, k6⟩ := HKX.out za Hza.out
  have c := HSb.out za Hza.out
  go_wp2_with fail
  refine c.mono ?_; rintro e bb ⟨vn, vo, vd, vc, rfl, ⟨Anb, cnb, rfl, rn, _⟩, ⟨Aob, cob, rfl, ro, _⟩, ⟨Adb, cdb, rfl, rd, _⟩, ⟨Acb, ccb, rfl, rc, _⟩, hb⟩
  have hx := bal (Below.refl bb.heap.size bb) (.cells #[.slice Aob TO.length cob, .slice Adb TD.length cdb, .slice Acb TC.length ccb] 44)
  have ht := T3.new bb (.slice Aob TO.length cob) (.slice Adb TD.length cdb) (.slice Acb TC.length ccb) 44
  have hl : bb.heap.size < (bb.alloc (.cells #[.slice Aob TO.length cob, .slice Adb TD.length cdb, .slice Acb TC.length ccb] 44)).heap.size := by simp
  have Hzb := Lib.hid (bnx (bnx Hza.out hb) hx)
  have RVa := Lib.hid (RVa.out.nx (bnx hb hx))
  have RVb := Lib.hid (RVb.out.nx (bnx hb hx))
  have RNa := Lib.hid (RNa.out.nx (bnx hb hx))
  have ROa := Lib.hid (ROa.out.nx (bnx hb hx))
  have RDa := Lib.hid (RDa.out.nx (bnx hb hx))
  have RCa := Lib.hid (RCa.out.nx (bnx hb hx))
  have HTa := Lib.hid (HTa.out.nx (bnx hb hx) HLa.out)
  have HLa := Lib.hid (Nat.lt_of_lt_of_le HLa.out (bnx hb hx).size)
  have RNb := Lib.hid (rn.nx hx)
  have ROb := Lib.hid (ro.nx hx)
  have RDb := Lib.hid (rd.nx hx)
  have RCb := Lib.hid (rc.nx hx)
  have HTb := Lib.hid ht
  have HLb := Lib.hid hl
  clear c hb hx ht hl rn ro rd rc k0 k1 k2 k3 k4 k5 k6
  go_upto_region 12 with fail
  generalize bb.alloc (.cells #[.slice Aob TO.length cob, .slice Adb TD.length cdb, .slice Acb TC.length ccb] 44) = zb at *
  obtain ⟨gb, hgb⟩ : ∃ b, bb.heap.size = b := ⟨_, rfl⟩
  rw [hgb] at HTb HLb ⊢
  clear hgb
  have xx : (xe == xe) = true := by simp
  clear HVa HVb HSa HSb HKX
  go_wp2
  go_loopg [18] 3 (fun g s wr => ∃ j : Nat, j + g = 3 ∧ s = .int .i64 j ∧ Below zb.heap.size zb wr)
  case atStart => exact ⟨0, by omega, rfl, Below.refl _ _⟩
  case round =>
    obtain ⟨j, hj, rfl, hbel⟩ := hrel
    cases gk with
    | zero =>
      obtain rfl : j = 3 := by omega
      have k1 := sameT AVa AVb cVa cVb TV wr (RVa.out.nx hbel) (RVb.out.nx hbel) HL.out.1
      go_wp2_with fail
      refine k1.mono ?_; rintro e y1 ⟨rfl, hy⟩
      have Hy1 := Lib.hid (bnx hbel hy)
      clear k1 hy hbel
      have k2 := sameT Ana Anb cna cnb TN y1 (RNa.out.nx Hy1.out) (RNb.out.nx Hy1.out) HL.out.2.1
      go_wp2_with fail
      refine k2.mono ?_; rintro e y2 ⟨rfl, hy⟩
      have Hy2 := Lib.hid (bnx Hy1.out hy)
      clear k2 hy
      have k3 := Lit3_any AVb cVb TV l y2 (RVb.out.nx Hy2.out) HL.out.1 b0 b1
      have k4 : Hid (∀ wx, Below y2.heap.size y2 wx → Calls Tryd.prog 28 #[.slice AVb TV.length cVb, .int .i64 l] wx (RetS wx (.int .u8 (lt3 TV l)))) := Lib.hid fun wx hx => refLit3_any AVb cVb TV l wx ((RVb.out.nx Hy2.out).nx hx) HL.out.1 b0 b1
      generalize lt3 TV l = lv at *
      have ll : (lv == lv) = true := by simp
      go_wp2_with fail
      refine k3.mono ?_; rintro e y3 ⟨rfl, hy⟩
      have Hy3 := Lib.hid (bnx Hy2.out hy)
      have k5 := k4.out y3 hy
      clear k3 k4 hy
      go_wp2_with fail
      refine k5.mono ?_; rintro e y4 ⟨rfl, rfl⟩
      clear k5
      have HF := Lib.hid (FIN.out _ (bnx Hzb.out Hy3.out))
      go_wp2
      go_ret
      exact ⟨rfl, HF.out⟩
    | succ g =>
      have hjj : j = 0 ∨ j = 1 ∨ j = 2 := by omega
      obtain ⟨p0, p1, p2, _, _, _⟩ := HTa.out.nx hbel HLa.out
      obtain ⟨m0, m1, m2, _, _, _⟩ := HTb.out.nx hbel HLb.out
      rcases hjj with rfl | rfl | rfl
      · have FQ : Hid (∀ n, Calls Tryd.prog 26 #[.slice Aoa TO.length coa, .slice Aob TO.length cob] (wr.drewN n) fun e w' => e = .returned (.bool true) ∧ ∃ m, w' = (wr.drewN n).drewN m) := Lib.hid fun n => sameQ Aoa Aob coa cob TO (wr.drewN n) ((ROa.out.nx hbel).nx (drw n)) ((ROb.out.nx hbel).nx (drw n)) HL.out.2.2.1
        have HBEL := Lib.hid hbel
        clear hbel
        go_wp2
        go_quiet (exact Calls.quiet_of (FQ.out _))
        clear FQ
        go_wp2
        go_roundg g
        case measure => omega
        case rel => exact ⟨1, by omega, by go_num, bnx HBEL.out (drw _)⟩
      · have FQ : Hid (∀ n, Calls Tryd.prog 26 #[.slice Ada TD.length cda, .slice Adb TD.length cdb] (wr.drewN n) fun e w' => e = .returned (.bool true) ∧ ∃ m, w' = (wr.drewN n).drewN m) := Lib.hid fun n => sameQ Ada Adb cda cdb TD (wr.drewN n) ((RDa.out.nx hbel).nx (drw n)) ((RDb.out.nx hbel).nx (drw n)) HL.out.2.2.2.1
        have HBEL := Lib.hid hbel
        clear hbel
        go_wp2
        go_quiet (exact Calls.quiet_of (FQ.out _))
        clear FQ
        go_wp2
        go_roundg g
        case measure => omega
        case rel => exact ⟨2, by omega, by go_num, bnx HBEL.out (drw _)⟩
      · have FQ : Hid (∀ n, Calls Tryd.prog 26 #[.slice Aca TC.length cca, .slice Acb TC.length ccb] (wr.drewN n) fun e w' => e = .returned (.bool true) ∧ ∃ m, w' = (wr.drewN n).drewN m) := Lib.hid fun n => sameQ Aca Acb cca ccb TC (wr.drewN n) ((RCa.out.nx hbel).nx (drw n)) ((RCb.out.nx hbel).nx (drw n)) HL.out.2.2.2.2
        have HBEL := Lib.hid hbel
        clear hbel
        go_wp2
        go_quiet (exact Calls.quiet_of (FQ.out _))
        clear FQ
        go_wp2
        go_roundg g
        case measure => omega
        case rel => exact ⟨3, by omega, by go_num, bnx HBEL.out (drw _)⟩
end Go.Proofs.YtekopdfnblfldaaDoor
