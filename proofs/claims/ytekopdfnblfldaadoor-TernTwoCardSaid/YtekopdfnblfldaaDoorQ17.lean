/-
  One statement's walk: TernTwo.
-/
import Derived.Test.YtekopdfnblfldaaDoorProg
import Derived.WalkKit
import Derived.WalkSpells
import Derived.WalkLawsBesides
import Derived.Lib.Hide
import Derived.BigQuiet
import Derived.Deep.QuietTactic
import Derived.Deep.RegionWith
import Derived.Deep.RegionHeld3
import Derived.Test.YtekopdfnblfldaaDoorQ16
import Derived.Deep.DeepCutAuto
set_option linter.unusedVariables false
namespace Go.Proofs.YtekopdfnblfldaaDoor
open Go.RowKit
/-- What is told of a step, laid in memory. -/
def TwS (w1 : World) (n o d c : List Int) (x : Int) (s t u : Value) (wx : World) : Prop := ∃ g An cn vo vd vc, s = .slice An n.length cn ∧ t = .pointer (some ⟨g, 0, none⟩) ∧ u = .int .i64 x ∧ RT wx wx.heap.size An n ∧ T3 wx g vo vd vc ∧ ST wx vo o ∧ ST wx vd d ∧ ST wx vc c ∧ Below w1.heap.size w1 wx ∧ g < wx.heap.size
theorem TwS.ahead {w1 u : World} {n o d c : List Int} {x : Int} {v1 v2 v3 : Value} {An : Option Addr} {cn g : Nat} (hU : Below w1.heap.size w1 u) (hn : ST u (.slice An n.length cn) n) (h1 : ST u v1 o) (h2 : ST u v2 d) (h3 : ST u v3 c) (ht : T3 u g (.slice none 0 0) (.slice none 0 0) (.slice none 0 0)) (hg : w1.heap.size ≤ g) (hl : g < u.heap.size) :
    TwS w1 n o d c x (.slice An n.length cn) (.pointer (some ⟨g, 0, none⟩)) (.int .i64 x) (((u.setCell ⟨g, 0, none⟩ v1).setCell ⟨g, 1, none⟩ v2).setCell ⟨g, 2, none⟩ v3) := by
  obtain ⟨A', c', e, r, _⟩ := hn.put3 ht v1 v2 v3
  simp only [Value.slice.injEq] at e
  obtain ⟨rfl, _, rfl⟩ := e
  exact ⟨g, An, cn, v1, v2, v3, rfl, rfl, rfl, r, ht.put3 _ _ _, h1.put3 ht _ _ _, h2.put3 ht _ _ _, h3.put3 ht _ _ _, below_put3 hU hg _ _ _, by simpa [put3] using hl⟩
theorem TwS.last {w1 u : World} {n o d c : List Int} {x : Int} {v1 v2 v3 : Value} {An : Option Addr} {cn : Nat} (hU : Below w1.heap.size w1 u) (hn : ST u (.slice An n.length cn) n) (h1 : ST u v1 o) (h2 : ST u v2 d) (h3 : ST u v3 c) :
    TwS w1 n o d c x (.slice An n.length cn) (.pointer (some ⟨u.heap.size, 0, none⟩)) (.int .i64 x) (u.alloc (.cells #[v1, v2, v3] 44)) := by
  have hb := bal (Below.refl u.heap.size u) (.cells #[v1, v2, v3] 44)
  obtain ⟨A', c', e, r, _⟩ := hn.nx hb
  simp only [Value.slice.injEq] at e
  obtain ⟨rfl, _, rfl⟩ := e
  exact ⟨u.heap.size, An, cn, v1, v2, v3, rfl, rfl, rfl, r, T3.new u v1 v2 v3 44, h1.nx hb, h2.nx hb, h3.nx hb, hU.alloc hU.size _, by simp⟩
set_option maxRecDepth 100000 in
set_option maxHeartbeats 8000000 in
theorem two_any (I : Int) (AL AG AO AB AC AN : Option Addr) (cL cG cO cB cC cN : Nat) (L G : List Pr) (O D C : List Int) (N : List Nm) (AS AI : Option Addr) (cs ci : Nat) (st inp : List Bool) (w : World) (hT : TB w) (hA : RA w w.heap.size AL AG AO AB AC AN L G O D C N) (lO : O.length ≤ maxLen) (lD : D.length ≤ maxLen) (lC : C.length ≤ maxLen) (lN : N.length ≤ maxLen)
    (hS : RB w w.heap.size AS st) (hI : RB w w.heap.size AI inp) (ms : st.length ≤ maxLen) (mi : inp.length ≤ maxLen) :
    Calls Tryd.prog 6 #[.agg #[.int .i64 I, .slice AL L.length cL, .slice AG G.length cG, .slice AO O.length cO, .slice AB D.length cB, .slice AC C.length cC, .slice AN N.length cN], .slice AS st.length cs, .slice AI inp.length ci] w (RetV w (.bool true)) := by
  have hb := bal (Below.refl w.heap.size w) (.cells #[.int .i64 I, .slice AL L.length cL, .slice AG G.length cG, .slice AO O.length cO, .slice AB D.length cB, .slice AC C.length cC, .slice AN N.length cN] 35)
  have hk : KA (w.alloc (.cells #[.int .i64 I, .slice AL L.length cL, .slice AG G.length cG, .slice AO O.length cO, .slice AB D.length cB, .slice AC C.length cC, .slice AN N.length cN] 35)) w.heap.size I AL AG AO AB AC AN cL cG cO cB cC cN L G O D C N := KA.new w I AL AG AO AB AC AN cL cG cO cB cC cN L G O D C N
  have hs0 : (w.alloc (.cells #[.int .i64 I, .slice AL L.length cL, .slice AG G.length cG, .slice AO O.length cO, .slice AB D.length cB, .slice AC C.length cC, .slice AN N.length cN] 35)).heap.size = w.heap.size + 1 := by simp
  have CSH := shown_any (w.alloc (.cells #[.int .i64 I, .slice AL L.length cL, .slice AG G.length cG, .slice AO O.length cO, .slice AB D.length cB, .slice AC C.length cC, .slice AN N.length cN] 35)) (hT.nx hb)
  have HTB := Lib.hid (hT.nx hb)
  have HA := Lib.hid (hA.nx hb)
  have RS := Lib.hid (hS.nx hb)
  have RI_ := Lib.hid (hI.nx hb)
  have HS0 := Lib.hid hs0
  have HB := Lib.hid hb
  have HKX0 := Lib.hid hk
  have CM := May9_rt I AL AG AO AB AC AN cL cG cO cB cC cN L G O D C N
  have HCM := Lib.hid (fun wx h => CM wx h lO lD lC lN)
  unfold maxLen at ms mi
  clear hA hb hk hs0 hS hI CM lO lD lC lN hT
  go_enter Tryd.func6, Tryd.ntmps6
  go_wp2_with fail
  refine CSH.mono ?_; rintro e u1 ⟨rfl, hu1⟩
  generalize w.alloc (.cells #[.int .i64 I, .slice AL L.length cL, .slice AG G.length cG, .slice AO O.length cO, .slice AB D.length cB, .slice AC C.length cC, .slice AN N.length cN] 35) = w0 at *
  have HKX : Hid (∀ wx, Below w0.heap.size w0 wx → KA wx w.heap.size I AL AG AO AB AC AN cL cG cO cB cC cN L G O D C N) := Lib.hid fun wx hx => HKX0.out.nx hx (by have := HS0.out; omega)
  have HKC : Hid (∀ wx, Below w0.heap.size w0 wx → wx.cell? ⟨w.heap.size, 0, none⟩ = some (.int .i64 I) ∧ wx.cell? ⟨w.heap.size, 1, none⟩ = some (.slice AL L.length cL) ∧ wx.cell? ⟨w.heap.size, 2, none⟩ = some (.slice AG G.length cG) ∧ wx.cell? ⟨w.heap.size, 3, none⟩ = some (.slice AO O.length cO) ∧ wx.cell? ⟨w.heap.size, 4, none⟩ = some (.slice AB D.length cB) ∧ wx.cell? ⟨w.heap.size, 5, none⟩ = some (.slice AC C.length cC) ∧ wx.cell? ⟨w.heap.size, 6, none⟩ = some (.slice AN N.length cN)) := Lib.hid fun wx hx => ⟨(HKX.out wx hx).k0, (HKX.out wx hx).k1, (HKX.out wx hx).k2, (HKX.out wx hx).k3, (HKX.out wx hx).k4, (HKX.out wx hx).k5, (HKX.out wx hx).k6⟩
  have Hu1 := Lib.hid hu1
  have FIN : Hid (∀ wx, Below w0.heap.size w0 wx → Below w.heap.size w wx) := Lib.hid fun wx hx => HB.out.trans (hx.mono HB.out.size)
  clear CSH hu1 HKX0 HB
  obtain ⟨k0, k1, k2, k3, k4, k5, k6⟩ := HKX.out u1 Hu1.out
  have C1 := HCM.out u1 (HA.out.nx Hu1.out)
  go_wp2_with fail
  refine C1.mono ?_; rintro e u2 ⟨bm, rfl, pm, hu2⟩
  have Hu2 := Lib.hid (bnx Hu1.out hu2)
  have HP := Lib.hid pm
  clear C1 hu2 pm HCM k0 k1 k2 k3 k4 k5 k6
  cases bm
  · go_wp2
    go_ret
    exact ⟨rfl, FIN.out _ Hu2.out⟩
  have hMd := HP.out rfl
  have HMd := Lib.hid hMd.1
  have HRt := Lib.hid hMd.2.2.2.2.2.2.2
  have HX := Lib.hid (show I ≤ 40 ∧ L.length ≤ 40 ∧ G.length ≤ 40 ∧ O.length ≤ 40 ∧ D.length ≤ 40 ∧ C.length ≤ 40 from ⟨hMd.2.1, hMd.2.2.1, hMd.2.2.2.1, hMd.2.2.2.2.1, hMd.2.2.2.2.2.1, hMd.2.2.2.2.2.2.1⟩)
  clear HP hMd
  by_cases q0 : 60 < st.length
  · have d0 : decide (60 < st.length) = true := decide_eq_true q0
    have f0 : decide ((60 : Int) < (st.length : Int)) = true := decide_eq_true (by omega)
    go_wp2
    go_ret
    exact ⟨rfl, FIN.out _ Hu2.out⟩
  have d0 : decide (60 < st.length) = false := decide_eq_false q0
  have f0 : decide ((60 : Int) < (st.length : Int)) = false := decide_eq_false (by omega)
  by_cases q1 : 60 < inp.length
  · have d1 : decide (60 < inp.length) = true := decide_eq_true q1
    have f1 : decide ((60 : Int) < (inp.length : Int)) = true := decide_eq_true (by omega)
    go_wp2
    go_ret
    exact ⟨rfl, FIN.out _ Hu2.out⟩
  have d1 : decide (60 < inp.length) = false := decide_eq_false q1
  have f1 : decide ((60 : Int) < (inp.length : Int)) = false := decide_eq_false (by omega)
  have ls3 : (of3 st).length ≤ maxLen := by rw [of3_len]; unfold maxLen; omega
  have li3 : (of3 inp).length ≤ maxLen := by rw [of3_len]; unfold maxLen; omega
  have EQ : Hid ((orNil (fit I L st inp) (valsOf3 (of3 st) (of3 inp) G)) = of3 (orNil (fit I L st inp) (valsOf st inp G)) ∧ (orNil (fit I L st inp) (nextL3 L G (of3 st) (of3 inp))) = of3 (orNil (fit I L st inp) (nextL L G st inp)) ∧ (orNil (fit I L st inp) (tellL3 O G (of3 st) (of3 inp))) = of3 (orNil (fit I L st inp) (tellL O G st inp)) ∧ (orNil (fit I L st inp) (tellL3 D G (of3 st) (of3 inp))) = of3 (orNil (fit I L st inp) (tellL D G st inp)) ∧ (orNil (fit I L st inp) (tellL3 C G (of3 st) (of3 inp))) = of3 (orNil (fit I L st inp) (tellL C G st inp))) := Lib.hid (by
    cases hf : fit I L st inp
    · exact ⟨rfl, rfl, rfl, rfl, rfl⟩
    · exact two_of HMd.out HRt.out hf)
  have HL : Hid ((orNil (fit I L st inp) (valsOf st inp G)).length ≤ 1000 ∧ (orNil (fit I L st inp) (nextL L G st inp)).length ≤ 1000 ∧ (orNil (fit I L st inp) (tellL O G st inp)).length ≤ 1000 ∧ (orNil (fit I L st inp) (tellL D G st inp)).length ≤ 1000 ∧ (orNil (fit I L st inp) (tellL C G st inp)).length ≤ 1000) := Lib.hid (by
    have := HX.out
    have e1 := valsOf_length st inp G
    cases fit I L st inp <;> simp [orNil, nextL, tellL, e1] <;> omega)
  have HV3 : Hid (∀ A c A' c' wx, Below w0.heap.size w0 wx → RT wx wx.heap.size A (of3 st) → RT wx wx.heap.size A' (of3 inp) → Calls Tryd.prog 22 #[.agg #[.int .i64 I, .slice AL L.length cL, .slice AG G.length cG, .slice AO O.length cO, .slice AB D.length cB, .slice AC C.length cC, .slice AN N.length cN], .slice A (of3 st).length c, .slice A' (of3 inp).length c'] wx (RetR0 wx (of3 (orNil (fit I L st inp) (valsOf st inp G))) (errX (fit I L st inp)))) := Lib.hid fun A c A' c' wx hx r r' => by
    have := Values3_any I AL AG AO AB AC AN cL cG cO cB cC cN L G O D C N A A' c c' (of3 st) (of3 inp) wx (HTB.out.nx hx) (HA.out.nx hx) r r' (nn_of st) (nn_of inp) ls3 li3 HMd.out
    rwa [fit3_of, EQ.out.1] at this
  have HS3 : Hid (∀ A c A' c' wx, Below w0.heap.size w0 wx → RT wx wx.heap.size A (of3 st) → RT wx wx.heap.size A' (of3 inp) → Calls Tryd.prog 24 #[.agg #[.int .i64 I, .slice AL L.length cL, .slice AG G.length cG, .slice AO O.length cO, .slice AB D.length cB, .slice AC C.length cC, .slice AN N.length cN], .slice A (of3 st).length c, .slice A' (of3 inp).length c'] wx (RetS3 wx (of3 (orNil (fit I L st inp) (nextL L G st inp))) (of3 (orNil (fit I L st inp) (tellL O G st inp))) (of3 (orNil (fit I L st inp) (tellL D G st inp))) (of3 (orNil (fit I L st inp) (tellL C G st inp))) (errX (fit I L st inp)))) := Lib.hid fun A c A' c' wx hx r r' => by
    have := Step3_any I AL AG AO AB AC AN cL cG cO cB cC cN L G O D C N A A' c c' (of3 st) (of3 inp) wx (HTB.out.nx hx) (HA.out.nx hx) r r' (nn_of st) (nn_of inp) ls3 li3 HMd.out
    rwa [fit3_of, EQ.out.2.1, EQ.out.2.2.1, EQ.out.2.2.2.1, EQ.out.2.2.2.2] at this
  have HV2 : Hid (∀ wx, Below w0.heap.size w0 wx → Calls Tryd.prog 30 #[.agg #[.int .i64 I, .slice AL L.length cL, .slice AG G.length cG, .slice AO O.length cO, .slice AB D.length cB, .slice AC C.length cC, .slice AN N.length cN], .slice AS st.length cs, .slice AI inp.length ci] wx (RetB0 wx (orNil (fit I L st inp) (valsOf st inp G)) (errX (fit I L st inp)))) := Lib.hid fun wx hx => Values_any I AL AG AO AB AC AN cL cG cO cB cC cN L G O D C N AS AI cs ci st inp wx (HA.out.nx hx) (RS.out.nx hx) (RI_.out.nx hx) HMd.out
  have HS2 : Hid (∀ wx, Below w0.heap.size w0 wx → Calls Tryd.prog 31 #[.agg #[.int .i64 I, .slice AL L.length cL, .slice AG G.length cG, .slice AO O.length cO, .slice AB D.length cB, .slice AC C.length cC, .slice AN N.length cN], .slice AS st.length cs, .slice AI inp.length ci] wx (RetT wx (orNil (fit I L st inp) (nextL L G st inp)) (orNil (fit I L st inp) (tellL O G st inp)) (orNil (fit I L st inp) (tellL D G st inp)) (orNil (fit I L st inp) (tellL C G st inp)) (errX (fit I L st inp)))) := Lib.hid fun wx hx => Step_any I AL AG AO AB AC AN cL cG cO cB cC cN L G O D C N AS AI cs ci st inp wx (HA.out.nx hx) (RS.out.nx hx) (RI_.out.nx hx) HMd.out
  have CO : Hid (∀ wx, Below w0.heap.size w0 wx → Calls Tryd.prog 29 #[.slice AS st.length cs] wx (RetR wx (of3 st)) ∧ Calls Tryd.prog 29 #[.slice AI inp.length ci] wx (RetR wx (of3 inp))) := Lib.hid fun wx hx => ⟨Of_r AS cs st wx (RS.out.nx hx) (by omega), Of_r AI ci inp wx (RI_.out.nx hx) (by omega)⟩
  clear EQ HTB HA RS RI_ HMd HRt HX ls3 li3
  generalize orNil (fit I L st inp) (valsOf st inp G) = TV at *
  generalize orNil (fit I L st inp) (nextL L G st inp) = TN at *
  generalize orNil (fit I L st inp) (tellL O G st inp) = TO at *
  generalize orNil (fit I L st inp) (tellL D G st inp) = TD at *
  generalize orNil (fit I L st inp) (tellL C G st inp) = TC at *
  generalize errX (fit I L st inp) = xe at *
  have CO1 : Hid (∀ wx, Below w0.heap.size w0 wx → Calls Tryd.prog 29 #[.slice AS st.length cs] wx (RetR wx (of3 st))) := Lib.hid fun wx hx => (CO.out wx hx).1
  have CO2 : Hid (∀ wx, Below w0.heap.size w0 wx → Calls Tryd.prog 29 #[.slice AI inp.length ci] wx (RetR wx (of3 inp))) := Lib.hid fun wx hx => (CO.out wx hx).2
  generalize of3 st = S3 at *
  generalize of3 inp = I3 at *
  have hU := Hu2.out.drew
  have K0 := HKC.out _ hU
  go_wp2_with fail
  go_region_held3 (fun w' => w'.cell? ⟨w.heap.size, 0, none⟩ = some (.int .i64 I) ∧ w'.cell? ⟨w.heap.size, 1, none⟩ = some (.slice AL L.length cL) ∧ w'.cell? ⟨w.heap.size, 2, none⟩ = some (.slice AG G.length cG) ∧ w'.cell? ⟨w.heap.size, 3, none⟩ = some (.slice AO O.length cO) ∧ w'.cell? ⟨w.heap.size, 4, none⟩ = some (.slice AB D.length cB) ∧ w'.cell? ⟨w.heap.size, 5, none⟩ = some (.slice AC C.length cC) ∧ w'.cell? ⟨w.heap.size, 6, none⟩ = some (.slice AN N.length cN))
    (first | exact K0 | exact K1 | exact K2 | exact K3)
    (first
      | (go_at_call 29; ((with_reducible refine (CO1.out _ hU).mono ?_); rintro e p1 ⟨P1, e1, rfl, y1, _, _, _, hp1⟩; have U1 := bnx hU hp1; have K1 := HKC.out _ U1))
      | (go_at_call 29; ((with_reducible refine (CO2.out _ U1).mono ?_); rintro e p2 ⟨P2, e2, rfl, y2, _, _, _, hp2⟩; have U2 := bnx U1 hp2; have K2 := HKC.out _ U2; have y1x := y1.nx hp2))
      | (go_at_call 22; ((with_reducible refine (HV3.out P1 e1 P2 e2 _ U2 y1x y2).mono ?_); rintro e p3 ⟨AV, cV, rfl, rv, _, _, _, hp3⟩; have U3 := bnx U2 hp3; have K3 := HKC.out _ U3)))
  have Hp3 := Lib.hid U3
  have RV := Lib.hid rv
  clear hU K0 K1 K2 K3 U1 U2 U3 hp1 hp2 hp3 y1 y1x y2 rv HV3
  obtain ⟨k0, k1, k2, k3, k4, k5, k6⟩ := HKX.out p3 Hp3.out
  have c := HV2.out p3 Hp3.out
  go_wp2_with fail
  refine c.mono ?_; rintro e p4 ⟨AV2, cV2, rfl, rv2, _, _, _, hp4⟩
  have Hp4 := Lib.hid (bnx Hp3.out hp4)
  have RV := Lib.hid (RV.out.nx hp4)
  have RV2 := Lib.hid rv2
  clear c hp4 rv2 HV2 k0 k1 k2 k3 k4 k5 k6
  go_upto_region 6 with fail
  have HKP : Hid (∀ wx, Below p4.heap.size p4 wx → wx.cell? ⟨w.heap.size, 0, none⟩ = some (.int .i64 I) ∧ wx.cell? ⟨w.heap.size, 1, none⟩ = some (.slice AL L.length cL) ∧ wx.cell? ⟨w.heap.size, 2, none⟩ = some (.slice AG G.length cG) ∧ wx.cell? ⟨w.heap.size, 3, none⟩ = some (.slice AO O.length cO) ∧ wx.cell? ⟨w.heap.size, 4, none⟩ = some (.slice AB D.length cB) ∧ wx.cell? ⟨w.heap.size, 5, none⟩ = some (.slice AC C.length cC) ∧ wx.cell? ⟨w.heap.size, 6, none⟩ = some (.slice AN N.length cN)) := Lib.hid fun wx hx => HKC.out wx (bnx Hp4.out hx)
  have HPP : Hid (∀ wx, Below p4.heap.size p4 wx → ∀ g x y z, p4.heap.size ≤ g → (((wx.setCell ⟨g, 0, none⟩ x).setCell ⟨g, 1, none⟩ y).setCell ⟨g, 2, none⟩ z).cell? ⟨w.heap.size, 0, none⟩ = some (.int .i64 I) ∧ (((wx.setCell ⟨g, 0, none⟩ x).setCell ⟨g, 1, none⟩ y).setCell ⟨g, 2, none⟩ z).cell? ⟨w.heap.size, 1, none⟩ = some (.slice AL L.length cL) ∧ (((wx.setCell ⟨g, 0, none⟩ x).setCell ⟨g, 1, none⟩ y).setCell ⟨g, 2, none⟩ z).cell? ⟨w.heap.size, 2, none⟩ = some (.slice AG G.length cG) ∧ (((wx.setCell ⟨g, 0, none⟩ x).setCell ⟨g, 1, none⟩ y).setCell ⟨g, 2, none⟩ z).cell? ⟨w.heap.size, 3, none⟩ = some (.slice AO O.length cO) ∧ (((wx.setCell ⟨g, 0, none⟩ x).setCell ⟨g, 1, none⟩ y).setCell ⟨g, 2, none⟩ z).cell? ⟨w.heap.size, 4, none⟩ = some (.slice AB D.length cB) ∧ (((wx.setCell ⟨g, 0, none⟩ x).setCell ⟨g, 1, none⟩ y).setCell ⟨g, 2, none⟩ z).cell? ⟨w.heap.size, 5, none⟩ = some (.slice AC C.length cC) ∧ (((wx.setCell ⟨g, 0, none⟩ x).setCell ⟨g, 1, none⟩ y).setCell ⟨g, 2, none⟩ z).cell? ⟨w.heap.size, 6, none⟩ = some (.slice AN N.length cN)) := Lib.hid fun wx hx g x y z hg => by
    obtain ⟨q0, q1, q2, q3, q4, q5, q6⟩ := HKP.out wx hx
    have hne : g ≠ w.heap.size := by have := HS0.out; have := Hp4.out.size; omega
    refine ⟨?_, ?_, ?_, ?_, ?_, ?_, ?_⟩
    · rw [World.cell?_setCell_other _ _ _ _ (by first | (simp; done) | (intro e; injection e with e1; exact hne e1) | (intro e; injection e with e1; exact hne e1.symm)), World.cell?_setCell_other _ _ _ _ (by first | (simp; done) | (intro e; injection e with e1; exact hne e1) | (intro e; injection e with e1; exact hne e1.symm)), World.cell?_setCell_other _ _ _ _ (by first | (simp; done) | (intro e; injection e with e1; exact hne e1) | (intro e; injection e with e1; exact hne e1.symm))]; exact q0
    · rw [World.cell?_setCell_other _ _ _ _ (by first | (simp; done) | (intro e; injection e with e1; exact hne e1) | (intro e; injection e with e1; exact hne e1.symm)), World.cell?_setCell_other _ _ _ _ (by first | (simp; done) | (intro e; injection e with e1; exact hne e1) | (intro e; injection e with e1; exact hne e1.symm)), World.cell?_setCell_other _ _ _ _ (by first | (simp; done) | (intro e; injection e with e1; exact hne e1) | (intro e; injection e with e1; exact hne e1.symm))]; exact q1
    · rw [World.cell?_setCell_other _ _ _ _ (by first | (simp; done) | (intro e; injection e with e1; exact hne e1) | (intro e; injection e with e1; exact hne e1.symm)), World.cell?_setCell_other _ _ _ _ (by first | (simp; done) | (intro e; injection e with e1; exact hne e1) | (intro e; injection e with e1; exact hne e1.symm)), World.cell?_setCell_other _ _ _ _ (by first | (simp; done) | (intro e; injection e with e1; exact hne e1) | (intro e; injection e with e1; exact hne e1.symm))]; exact q2
    · rw [World.cell?_setCell_other _ _ _ _ (by first | (simp; done) | (intro e; injection e with e1; exact hne e1) | (intro e; injection e with e1; exact hne e1.symm)), World.cell?_setCell_other _ _ _ _ (by first | (simp; done) | (intro e; injection e with e1; exact hne e1) | (intro e; injection e with e1; exact hne e1.symm)), World.cell?_setCell_other _ _ _ _ (by first | (simp; done) | (intro e; injection e with e1; exact hne e1) | (intro e; injection e with e1; exact hne e1.symm))]; exact q3
    · rw [World.cell?_setCell_other _ _ _ _ (by first | (simp; done) | (intro e; injection e with e1; exact hne e1) | (intro e; injection e with e1; exact hne e1.symm)), World.cell?_setCell_other _ _ _ _ (by first | (simp; done) | (intro e; injection e with e1; exact hne e1) | (intro e; injection e with e1; exact hne e1.symm)), World.cell?_setCell_other _ _ _ _ (by first | (simp; done) | (intro e; injection e with e1; exact hne e1) | (intro e; injection e with e1; exact hne e1.symm))]; exact q4
    · rw [World.cell?_setCell_other _ _ _ _ (by first | (simp; done) | (intro e; injection e with e1; exact hne e1) | (intro e; injection e with e1; exact hne e1.symm)), World.cell?_setCell_other _ _ _ _ (by first | (simp; done) | (intro e; injection e with e1; exact hne e1) | (intro e; injection e with e1; exact hne e1.symm)), World.cell?_setCell_other _ _ _ _ (by first | (simp; done) | (intro e; injection e with e1; exact hne e1) | (intro e; injection e with e1; exact hne e1.symm))]; exact q5
    · rw [World.cell?_setCell_other _ _ _ _ (by first | (simp; done) | (intro e; injection e with e1; exact hne e1) | (intro e; injection e with e1; exact hne e1.symm)), World.cell?_setCell_other _ _ _ _ (by first | (simp; done) | (intro e; injection e with e1; exact hne e1) | (intro e; injection e with e1; exact hne e1.symm)), World.cell?_setCell_other _ _ _ _ (by first | (simp; done) | (intro e; injection e with e1; exact hne e1) | (intro e; injection e with e1; exact hne e1.symm))]; exact q6
  have L1 : Hid (∀ wx, Below p4.heap.size p4 wx → Calls Tryd.prog 29 #[.slice AS st.length cs] wx (RetR wx S3)) := Lib.hid fun wx hx => CO1.out wx (bnx Hp4.out hx)
  have L2 : Hid (∀ wx, Below p4.heap.size p4 wx → Calls Tryd.prog 29 #[.slice AI inp.length ci] wx (RetR wx I3)) := Lib.hid fun wx hx => CO2.out wx (bnx Hp4.out hx)
  have L3 : Hid (∀ A c A' c' wx, Below p4.heap.size p4 wx → RT wx wx.heap.size A S3 → RT wx wx.heap.size A' I3 → Calls Tryd.prog 24 #[.agg #[.int .i64 I, .slice AL L.length cL, .slice AG G.length cG, .slice AO O.length cO, .slice AB D.length cB, .slice AC C.length cC, .slice AN N.length cN], .slice A S3.length c, .slice A' I3.length c'] wx (RetS3 wx (of3 TN) (of3 TO) (of3 TD) (of3 TC) xe)) := Lib.hid fun A c A' c' wx hx r r' => HS3.out A c A' c' wx (bnx Hp4.out hx) r r'
  go_cut [12, 13, 14] (fun s t u wx => TwS p4 (of3 TN) (of3 TO) (of3 TD) (of3 TC) xe s t u wx)
  case first =>
    clear HS2 HS3 CO CO1 CO2 HKC HKX RV RV2 FIN HL
    generalize of3 TN = N3 at *
    generalize of3 TO = O3 at *
    generalize of3 TD = D3 at *
    generalize of3 TC = C3 at *
    have hU := (Below.refl p4.heap.size p4).drew
    have hV := hU.alloc hU.size Z33
    have K0 := HKP.out _ hU
    have K0a := HKP.out _ hV
    have t0 : T3 (p4.drew.alloc Z33) p4.heap.size (.slice none 0 0) (.slice none 0 0) (.slice none 0 0) := T3.new p4.drew _ _ _ 44
    have s0 : p4.heap.size < (p4.drew.alloc Z33).heap.size := by simp
    unfold Z33 at hV K0a t0 s0
    go_region_held3 (fun w' => w'.cell? ⟨w.heap.size, 0, none⟩ = some (.int .i64 I) ∧ w'.cell? ⟨w.heap.size, 1, none⟩ = some (.slice AL L.length cL) ∧ w'.cell? ⟨w.heap.size, 2, none⟩ = some (.slice AG G.length cG) ∧ w'.cell? ⟨w.heap.size, 3, none⟩ = some (.slice AO O.length cO) ∧ w'.cell? ⟨w.heap.size, 4, none⟩ = some (.slice AB D.length cB) ∧ w'.cell? ⟨w.heap.size, 5, none⟩ = some (.slice AC C.length cC) ∧ w'.cell? ⟨w.heap.size, 6, none⟩ = some (.slice AN N.length cN))
      (first | exact K0 | exact K0a | exact K1 | exact K1a | exact K2 | exact K2a | exact K3 | exact K3a | exact K3c | exact K4 _ _ _ _ (by first | exact Nat.le_refl _ | exact U1.size | exact U2.size))
      (first
        | (go_at_call 29; ((with_reducible refine (L1.out _ hU).mono ?_); rintro e u1 ⟨A1, c1, rfl, r1, z1, n1, m1, hu1⟩; have U1 := bnx hU hu1; have K1 := HKP.out _ U1; have U1a := U1.alloc U1.size (.cells #[.slice none 0 0, .slice none 0 0, .slice none 0 0] 44); have K1a := HKP.out _ U1a; have tb1 := T3.new u1 (.slice none 0 0) (.slice none 0 0) (.slice none 0 0) 44; have lb1 : u1.heap.size < (u1.alloc (.cells #[.slice none 0 0, .slice none 0 0, .slice none 0 0] 44)).heap.size := by simp))
        | (go_at_call 29; ((with_reducible refine (L2.out _ U1).mono ?_); rintro e u2 ⟨A2, c2, rfl, r2, z2, n2, m2, hu2⟩; have r1x := r1.nx hu2; have U2 := bnx U1 hu2; have K2 := HKP.out _ U2; have T2 := T1.nx hu2 l1; have l2 := Nat.lt_of_lt_of_le l1 hu2.size))
        | (go_at_call 29; ((with_reducible refine (L2.out _ U1a).mono ?_); rintro e u2 ⟨A2, c2, rfl, r2, z2, n2, m2, hu2⟩; have r1x := (r1.nx (bal (Below.refl _ _) _)).nx hu2; have U2 := bnx U1a hu2; have K2 := HKP.out _ U2; have T2 := tb1.nx hu2 lb1; have l2 := Nat.lt_of_lt_of_le lb1 hu2.size))
        | (go_at_call 29; ((with_reducible refine (L2.out _ U1).mono ?_); rintro e u2 ⟨A2, c2, rfl, r2, z2, n2, m2, hu2⟩; have r1x := r1.nx hu2; have U2 := bnx U1 hu2; have K2 := HKP.out _ U2; have U2a := U2.alloc U2.size (.cells #[.slice none 0 0, .slice none 0 0, .slice none 0 0] 44); have K2a := HKP.out _ U2a; have tb2 := T3.new u2 (.slice none 0 0) (.slice none 0 0) (.slice none 0 0) 44; have lb2 : u2.heap.size < (u2.alloc (.cells #[.slice none 0 0, .slice none 0 0, .slice none 0 0] 44)).heap.size := by simp))
        | (go_at_call 24; ((with_reducible refine (L3.out A1 c1 A2 c2 _ U2 r1x r2).mono ?_); rintro e u3 ⟨vn, vo, vd, vc, rfl, ⟨An, cn, rfl, zn⟩, so, sd, sc, hu3⟩; have sn : ST u3 (.slice An N3.length cn) N3 := ⟨An, cn, rfl, zn⟩; obtain ⟨Ao, co, rfl, zo⟩ := so; obtain ⟨Ad, cd, rfl, zd⟩ := sd; obtain ⟨Ac, cc, rfl, zc⟩ := sc; have so : ST u3 (.slice Ao O3.length co) O3 := ⟨Ao, co, rfl, zo⟩; have sd : ST u3 (.slice Ad D3.length cd) D3 := ⟨Ad, cd, rfl, zd⟩; have sc : ST u3 (.slice Ac C3.length cc) C3 := ⟨Ac, cc, rfl, zc⟩; have U3 := bnx U2 hu3; have K3 := HKP.out _ U3; have T3f := T2.nx hu3 l2; have l3 := Nat.lt_of_lt_of_le l2 hu3.size; have K4 := HPP.out _ U3; obtain ⟨e0, e1, e2, e3, e4, e5⟩ := T3f))
        | (go_at_call 24; ((with_reducible refine (L3.out A1 c1 A2 c2 _ U2a (r1x.nx (bal (Below.refl _ _) _)) (r2.nx (bal (Below.refl _ _) _))).mono ?_); rintro e u3 ⟨vn, vo, vd, vc, rfl, ⟨An, cn, rfl, zn⟩, so, sd, sc, hu3⟩; have sn : ST u3 (.slice An N3.length cn) N3 := ⟨An, cn, rfl, zn⟩; obtain ⟨Ao, co, rfl, zo⟩ := so; obtain ⟨Ad, cd, rfl, zd⟩ := sd; obtain ⟨Ac, cc, rfl, zc⟩ := sc; have so : ST u3 (.slice Ao O3.length co) O3 := ⟨Ao, co, rfl, zo⟩; have sd : ST u3 (.slice Ad D3.length cd) D3 := ⟨Ad, cd, rfl, zd⟩; have sc : ST u3 (.slice Ac C3.length cc) C3 := ⟨Ac, cc, rfl, zc⟩; have U3 := bnx U2a hu3; have K3 := HKP.out _ U3; have T3f := tb2.nx hu3 lb2; have l3 := Nat.lt_of_lt_of_le lb2 hu3.size; have K4 := HPP.out _ U3; obtain ⟨e0, e1, e2, e3, e4, e5⟩ := T3f))
        | (go_at_call 24; ((with_reducible refine (L3.out A1 c1 A2 c2 _ U2 r1x r2).mono ?_); rintro e u3 ⟨vn, vo, vd, vc, rfl, ⟨An, cn, rfl, zn⟩, so, sd, sc, hu3⟩; have sn : ST u3 (.slice An N3.length cn) N3 := ⟨An, cn, rfl, zn⟩; obtain ⟨Ao, co, rfl, zo⟩ := so; obtain ⟨Ad, cd, rfl, zd⟩ := sd; obtain ⟨Ac, cc, rfl, zc⟩ := sc; have so : ST u3 (.slice Ao O3.length co) O3 := ⟨Ao, co, rfl, zo⟩; have sd : ST u3 (.slice Ad D3.length cd) D3 := ⟨Ad, cd, rfl, zd⟩; have sc : ST u3 (.slice Ac C3.length cc) C3 := ⟨Ac, cc, rfl, zc⟩; have U3 := bnx U2 hu3; have K3 := HKP.out _ U3; have U3a := U3.alloc U3.size (.cells #[.slice none 0 0, .slice none 0 0, .slice none 0 0] 44); have K3a := HKP.out _ U3a; have K3c := HKP.out _ (U3.alloc U3.size (.cells #[.slice Ao O3.length co, .slice Ad D3.length cd, .slice Ac C3.length cc] 44))))
        | (go_at_call 29; ((refine (L1.out _ hV).mono ?_); rintro e u1 ⟨A1, c1, rfl, r1, z1, n1, m1, hu1⟩; have U1 := bnx hV hu1; have K1 := HKP.out _ U1; have T1 := t0.nx hu1 s0; have l1 : p4.heap.size < u1.heap.size := Nat.lt_of_lt_of_le s0 hu1.size)))
    all_goals (go_wp2_with fail; go_meet; first | exact TwS.last U3 sn so sd sc | exact TwS.ahead U3 sn so sd sc ⟨e0, e1, e2, e3, e4, e5⟩ (by first | exact Nat.le_refl _ | exact U1.size | exact U2.size) l3)
  case rest =>
    obtain ⟨g1, An, cn, vo, vd, vc, rfl, rfl, rfl, rn, tg, so, sd, sc, hbl, hg⟩ := hcut
    obtain ⟨Ao, co, rfl, ro, _⟩ := so
    obtain ⟨Ad, cd, rfl, rd, _⟩ := sd
    obtain ⟨Ac, cc, rfl, rc, _⟩ := sc
    have Hwc := Lib.hid (bnx Hp4.out hbl)
    have RV := Lib.hid (RV.out.nx hbl)
    have RV2 := Lib.hid (RV2.out.nx hbl)
    have RN := Lib.hid rn
    have RO := Lib.hid ro
    have RD := Lib.hid rd
    have RC := Lib.hid rc
    have HT1 := Lib.hid tg
    have HL1 := Lib.hid hg
    clear rn ro rd rc tg hg hbl HKP HPP L1 L2 L3 HS3 CO CO1 CO2 HKC
    obtain ⟨k0, k1, k2, k3, k4, k5, k6⟩ := HKX.out wc Hwc.out
    have c := HS2.out wc Hwc.out
    go_wp2_with fail
    refine c.mono ?_; rintro e b2 ⟨vn, vo, vd, vc, rfl, ⟨Bn, dn, rfl, sn, _⟩, ⟨Bo, do_, rfl, so, _⟩, ⟨Bd, dd, rfl, sd, _⟩, ⟨Bc, dc, rfl, sc, _⟩, hb⟩
    have hx := bal (Below.refl b2.heap.size b2) (.cells #[.slice Bo TO.length do_, .slice Bd TD.length dd, .slice Bc TC.length dc] 57)
    have ht := T3.new b2 (.slice Bo TO.length do_) (.slice Bd TD.length dd) (.slice Bc TC.length dc) 57
    have hl : b2.heap.size < (b2.alloc (.cells #[.slice Bo TO.length do_, .slice Bd TD.length dd, .slice Bc TC.length dc] 57)).heap.size := by simp
    have Hz := Lib.hid (bnx (bnx Hwc.out hb) hx)
    have RV := Lib.hid (RV.out.nx (bnx hb hx))
    have RV2 := Lib.hid (RV2.out.nx (bnx hb hx))
    have RN := Lib.hid (RN.out.nx (bnx hb hx))
    have RO := Lib.hid (RO.out.nx (bnx hb hx))
    have RD := Lib.hid (RD.out.nx (bnx hb hx))
    have RC := Lib.hid (RC.out.nx (bnx hb hx))
    have HT1 := Lib.hid (HT1.out.nx (bnx hb hx) HL1.out)
    have HL1 := Lib.hid (Nat.lt_of_lt_of_le HL1.out (bnx hb hx).size)
    have SN := Lib.hid (sn.nx hx)
    have SO := Lib.hid (so.nx hx)
    have SD := Lib.hid (sd.nx hx)
    have SC := Lib.hid (sc.nx hx)
    have HT2 := Lib.hid ht
    have HL2 := Lib.hid hl
    clear c hb hx ht hl sn so sd sc k0 k1 k2 k3 k4 k5 k6 HS2 HKX
    go_upto_region 8 with fail
    generalize b2.alloc (.cells #[.slice Bo TO.length do_, .slice Bd TD.length dd, .slice Bc TC.length dc] 57) = z0 at *
    obtain ⟨g2, hg2⟩ : ∃ b, b2.heap.size = b := ⟨_, rfl⟩
    rw [hg2] at HT2 HL2 ⊢
    clear hg2
    have SM : Hid (∀ A A' c c' (l : List Bool) wx, l.length ≤ 1000 → RT wx wx.heap.size A (of3 l) → RT wx wx.heap.size A' (of3 l) → Calls Tryd.prog 26 #[.slice A (of3 l).length c, .slice A' (of3 l).length c'] wx (RetV wx (.bool true))) := Lib.hid fun A A' c c' l wx hl r r' => by
      have := Same_any A A' c c' (of3 l) (of3 l) wx r r' (by rw [of3_len]; unfold maxLen; omega)
      rwa [show (of3 l == of3 l) = true by simp] at this
    have OF : Hid (∀ A c (l : List Bool) wx, l.length ≤ 1000 → RB wx wx.heap.size A l → Calls Tryd.prog 29 #[.slice A l.length c] wx (RetR wx (of3 l))) := Lib.hid fun A c l wx hl r => Of_r A c l wx r (by omega)
    have xx : (xe != xe) = false := by simp
    have c := OF.out AV2 cV2 TV z0 HL.out.1 (RV2.out)
    go_wp2_with fail
    refine c.mono ?_; rintro e z1a ⟨Q, cq, rfl, rq, _, _, _, hq⟩
    have c2 := SM.out AV Q cV cq TV z1a HL.out.1 (RV.out.nx (hq)) rq
    have Hz1a := Lib.hid (hq)
    clear c hq rq
    go_wp2_with fail
    refine c2.mono ?_; rintro e z1 ⟨rfl, hq⟩
    have Hz1 := Lib.hid (bnx Hz1a.out hq)
    clear c2 hq
    have c := OF.out Bn dn TN z1 HL.out.2.1 (SN.out.nx Hz1.out)
    go_wp2_with fail
    refine c.mono ?_; rintro e z2a ⟨Q, cq, rfl, rq, _, _, _, hq⟩
    have c2 := SM.out An Q cn cq TN z2a HL.out.2.1 (RN.out.nx (bnx Hz1.out hq)) rq
    have Hz2a := Lib.hid (bnx Hz1.out hq)
    clear c hq rq
    go_wp2_with fail
    refine c2.mono ?_; rintro e z2 ⟨rfl, hq⟩
    have Hz2 := Lib.hid (bnx Hz2a.out hq)
    clear c2 hq
    go_wp2
    go_loopg [18] 3 (fun g s wr => ∃ j : Nat, j + g = 3 ∧ s = .int .i64 j ∧ Below z2.heap.size z2 wr)
    case atStart => exact ⟨0, by omega, rfl, Below.refl _ _⟩
    case round =>
      obtain ⟨j, hj, rfl, hbel⟩ := hrel
      have hbz := bnx Hz2.out hbel
      cases gk with
      | zero =>
        obtain rfl : j = 3 := by omega
        have HFI := Lib.hid (FIN.out _ (bnx Hz.out hbz))
        clear hbz hbel
        go_wp2
        go_ret
        exact ⟨rfl, HFI.out⟩
      | succ g =>
        have hjj : j = 0 ∨ j = 1 ∨ j = 2 := by omega
        have hU := hbz.drew
        have HZZ := Lib.hid hbz
        have HTT : Hid (∀ wx, Below z0.heap.size z0 wx → T3 wx g1 (.slice Ao (of3 TO).length co) (.slice Ad (of3 TD).length cd) (.slice Ac (of3 TC).length cc) ∧ T3 wx g2 (.slice Bo TO.length do_) (.slice Bd TD.length dd) (.slice Bc TC.length dc)) := Lib.hid fun wx hx => ⟨HT1.out.nx hx HL1.out, HT2.out.nx hx HL2.out⟩
        rcases hjj with rfl | rfl | rfl
        · have HK2 : Hid (∀ wx, Below z0.heap.size z0 wx → wx.cell? ⟨g1, 0, none⟩ = some (.slice Ao (of3 TO).length co) ∧ wx.cell? ⟨g2, 0, none⟩ = some (.slice Bo TO.length do_)) := Lib.hid fun wx hx => ⟨(HTT.out wx hx).1.c0, (HTT.out wx hx).2.c0⟩
          have K0 := HK2.out _ hU
          have O1 : Hid (∀ wx, Below z0.heap.size z0 wx → Calls Tryd.prog 29 #[.slice Bo TO.length do_] wx (RetR wx (of3 TO))) := Lib.hid fun wx hx => OF.out Bo do_ TO wx HL.out.2.2.1 (SO.out.nx hx)
          have O2 : Hid (∀ Q cq wx, Below z0.heap.size z0 wx → RT wx wx.heap.size Q (of3 TO) → Calls Tryd.prog 26 #[.slice Ao (of3 TO).length co, .slice Q (of3 TO).length cq] wx (RetV wx (.bool true))) := Lib.hid fun Q cq wx hx rq => SM.out Ao Q co cq TO wx HL.out.2.2.1 (RO.out.nx hx) rq
          clear HTT HT1 HT2 hbz
          generalize of3 TO = T3_ at *
          go_wp2_with fail
          go_region_held3 (fun w' => w'.cell? ⟨g1, 0, none⟩ = some (.slice Ao T3_.length co) ∧ w'.cell? ⟨g2, 0, none⟩ = some (.slice Bo TO.length do_))
            (first | exact K0 | exact K1 | exact K2)
            (first
              | (go_at_call 29; ((with_reducible refine (O1.out _ hU).mono ?_); rintro e f1 ⟨Q, cq, rfl, rq, _, _, _, hf1⟩; have U1 := bnx hU hf1; have K1 := HK2.out _ U1))
              | (go_at_call 26; ((with_reducible refine (O2.out Q cq _ U1 rq).mono ?_); rintro e f2 ⟨rfl, hf2⟩; have U2 := bnx U1 hf2; have K2 := HK2.out _ U2)))
          have HB2 := Lib.hid (bnx (bnx (hbel.drew) hf1) hf2)
          clear hU K0 K1 K2 U1 U2 hf1 hf2 rq hbel
          go_wp2
          go_roundg g
          case measure => omega
          case rel => exact ⟨1, by omega, by go_num, HB2.out⟩
        · have HK2 : Hid (∀ wx, Below z0.heap.size z0 wx → wx.cell? ⟨g1, 1, none⟩ = some (.slice Ad (of3 TD).length cd) ∧ wx.cell? ⟨g2, 1, none⟩ = some (.slice Bd TD.length dd)) := Lib.hid fun wx hx => ⟨(HTT.out wx hx).1.c1, (HTT.out wx hx).2.c1⟩
          have K0 := HK2.out _ hU
          have O1 : Hid (∀ wx, Below z0.heap.size z0 wx → Calls Tryd.prog 29 #[.slice Bd TD.length dd] wx (RetR wx (of3 TD))) := Lib.hid fun wx hx => OF.out Bd dd TD wx HL.out.2.2.2.1 (SD.out.nx hx)
          have O2 : Hid (∀ Q cq wx, Below z0.heap.size z0 wx → RT wx wx.heap.size Q (of3 TD) → Calls Tryd.prog 26 #[.slice Ad (of3 TD).length cd, .slice Q (of3 TD).length cq] wx (RetV wx (.bool true))) := Lib.hid fun Q cq wx hx rq => SM.out Ad Q cd cq TD wx HL.out.2.2.2.1 (RD.out.nx hx) rq
          clear HTT HT1 HT2 hbz
          generalize of3 TD = T3_ at *
          go_wp2_with fail
          go_region_held3 (fun w' => w'.cell? ⟨g1, 1, none⟩ = some (.slice Ad T3_.length cd) ∧ w'.cell? ⟨g2, 1, none⟩ = some (.slice Bd TD.length dd))
            (first | exact K0 | exact K1 | exact K2)
            (first
              | (go_at_call 29; ((with_reducible refine (O1.out _ hU).mono ?_); rintro e f1 ⟨Q, cq, rfl, rq, _, _, _, hf1⟩; have U1 := bnx hU hf1; have K1 := HK2.out _ U1))
              | (go_at_call 26; ((with_reducible refine (O2.out Q cq _ U1 rq).mono ?_); rintro e f2 ⟨rfl, hf2⟩; have U2 := bnx U1 hf2; have K2 := HK2.out _ U2)))
          have HB2 := Lib.hid (bnx (bnx (hbel.drew) hf1) hf2)
          clear hU K0 K1 K2 U1 U2 hf1 hf2 rq hbel
          go_wp2
          go_roundg g
          case measure => omega
          case rel => exact ⟨2, by omega, by go_num, HB2.out⟩
        · have HK2 : Hid (∀ wx, Below z0.heap.size z0 wx → wx.cell? ⟨g1, 2, none⟩ = some (.slice Ac (of3 TC).length cc) ∧ wx.cell? ⟨g2, 2, none⟩ = some (.slice Bc TC.length dc)) := Lib.hid fun wx hx => ⟨(HTT.out wx hx).1.c2, (HTT.out wx hx).2.c2⟩
          have K0 := HK2.out _ hU
          have O1 : Hid (∀ wx, Below z0.heap.size z0 wx → Calls Tryd.prog 29 #[.slice Bc TC.length dc] wx (RetR wx (of3 TC))) := Lib.hid fun wx hx => OF.out Bc dc TC wx HL.out.2.2.2.2 (SC.out.nx hx)
          have O2 : Hid (∀ Q cq wx, Below z0.heap.size z0 wx → RT wx wx.heap.size Q (of3 TC) → Calls Tryd.prog 26 #[.slice Ac (of3 TC).length cc, .slice Q (of3 TC).length cq] wx (RetV wx (.bool true))) := Lib.hid fun Q cq wx hx rq => SM.out Ac Q cc cq TC wx HL.out.2.2.2.2 (RC.out.nx hx) rq
          clear HTT HT1 HT2 hbz
          generalize of3 TC = T3_ at *
          go_wp2_with fail
          go_region_held3 (fun w' => w'.cell? ⟨g1, 2, none⟩ = some (.slice Ac T3_.length cc) ∧ w'.cell? ⟨g2, 2, none⟩ = some (.slice Bc TC.length dc))
            (first | exact K0 | exact K1 | exact K2)
            (first
              | (go_at_call 29; ((with_reducible refine (O1.out _ hU).mono ?_); rintro e f1 ⟨Q, cq, rfl, rq, _, _, _, hf1⟩; have U1 := bnx hU hf1; have K1 := HK2.out _ U1))
              | (go_at_call 26; ((with_reducible refine (O2.out Q cq _ U1 rq).mono ?_); rintro e f2 ⟨rfl, hf2⟩; have U2 := bnx U1 hf2; have K2 := HK2.out _ U2)))
          have HB2 := Lib.hid (bnx (bnx (hbel.drew) hf1) hf2)
          clear hU K0 K1 K2 U1 U2 hf1 hf2 rq hbel
          go_wp2
          go_roundg g
          case measure => omega
          case rel => exact ⟨3, by omega, by go_num, HB2.out⟩
end Go.Proofs.YtekopdfnblfldaaDoor
