/-
  The calls, whatever they are handed.
  One statement's walk: SimShapes.
-/
import Derived.Test.YtkdocjcpehmljaaProg
import Derived.WalkKit
import Derived.WalkSpells
import Derived.WalkLawsBesides
import Derived.Lib.Hide
import Derived.BigQuiet
import Derived.Deep.QuietTactic
import Derived.Deep.RegionWith
import Derived.Deep.RegionHeld3
import Derived.Test.YtkdocjcpehmljaaQ10
import Derived.Test.YtkdocjcpehmljaaQ11
set_option linter.unusedVariables false
/- The calls, whatever they are handed. -/
namespace Go.Proofs.Ytkdocjcpehmljaa
open Go.RowKit
/-- Do a state and inputs fit? -/
def fit (I : Int) (L : List Pr) (st inp : List Bool) : Bool := decide (st.length = L.length) && decide ((inp.length : Int) = I)
def errX (b : Bool) : Int := if b then 0 else 7
def orNil {α : Type} (b : Bool) (l : List α) : List α := if b then l else []
theorem fit_yes {I : Int} {L : List Pr} {st inp : List Bool} (h : fit I L st inp = true) : st.length = L.length ∧ (inp.length : Int) = I := by
  simpa [fit] using h
theorem fit_no {I : Int} {L : List Pr} {st inp : List Bool} (h : fit I L st inp = false) : ¬ (st.length = L.length ∧ (inp.length : Int) = I) := by
  intro h'
  rw [fit, decide_eq_true h'.1, decide_eq_true h'.2] at h
  cases h
theorem Values_any (I : Int) (AL AG AO AB AC AN : Option Addr) (cL cG cO cB cC cN : Nat) (L G : List Pr) (O D C : List Int) (N : List Nm) (AS AI : Option Addr) (cs ci : Nat) (st inp : List Bool) (w : World) (hA : RA w w.heap.size AL AG AO AB AC AN L G O D C N) (hS : RB w w.heap.size AS st) (hI : RB w w.heap.size AI inp) (hM : Md I L G O D C) :
    Calls Try.prog 13 #[.agg #[.int .i64 I, .slice AL L.length cL, .slice AG G.length cG, .slice AO O.length cO, .slice AB D.length cB, .slice AC C.length cC, .slice AN N.length cN], .slice AS st.length cs, .slice AI inp.length ci] w (RetB0 w (orNil (fit I L st inp) (valsOf st inp G)) (errX (fit I L st inp))) := by
  cases h : fit I L st inp
  · exact Values_no I AL AG AO AB AC AN cL cG cO cB cC cN L G O D C N AS AI cs ci st inp w (fit_no h)
  · exact Values_yes I AL AG AO AB AC AN cL cG cO cB cC cN L G O D C N AS AI cs ci st inp w hA hS hI hM (fit_yes h).1 (fit_yes h).2
theorem refValues_any (I : Int) (AL AG AO AB AC AN : Option Addr) (cL cG cO cB cC cN : Nat) (L G : List Pr) (O D C : List Int) (N : List Nm) (AS AI : Option Addr) (cs ci : Nat) (st inp : List Bool) (w : World) (hA : RA w w.heap.size AL AG AO AB AC AN L G O D C N) (hS : RB w w.heap.size AS st) (hI : RB w w.heap.size AI inp) (zS : AS = none → cs = 0) (zI : AI = none → ci = 0) (hM : Md I L G O D C) :
    Calls Try.prog 14 #[.agg #[.int .i64 I, .slice AL L.length cL, .slice AG G.length cG, .slice AO O.length cO, .slice AB D.length cB, .slice AC C.length cC, .slice AN N.length cN], .slice AS st.length cs, .slice AI inp.length ci] w (RetB0 w (orNil (fit I L st inp) (valsOf st inp G)) (errX (fit I L st inp))) := by
  cases h : fit I L st inp
  · exact refValues_no I AL AG AO AB AC AN cL cG cO cB cC cN L G O D C N AS AI cs ci st inp w (fit_no h)
  · exact refValues_yes I AL AG AO AB AC AN cL cG cO cB cC cN L G O D C N AS AI cs ci st inp w hA hS hI zS zI hM (fit_yes h).1 (fit_yes h).2
theorem Step_any (I : Int) (AL AG AO AB AC AN : Option Addr) (cL cG cO cB cC cN : Nat) (L G : List Pr) (O D C : List Int) (N : List Nm) (AS AI : Option Addr) (cs ci : Nat) (st inp : List Bool) (w : World) (hA : RA w w.heap.size AL AG AO AB AC AN L G O D C N) (hS : RB w w.heap.size AS st) (hI : RB w w.heap.size AI inp) (hM : Md I L G O D C) :
    Calls Try.prog 15 #[.agg #[.int .i64 I, .slice AL L.length cL, .slice AG G.length cG, .slice AO O.length cO, .slice AB D.length cB, .slice AC C.length cC, .slice AN N.length cN], .slice AS st.length cs, .slice AI inp.length ci] w (RetT w (orNil (fit I L st inp) (nextL L G st inp)) (orNil (fit I L st inp) (tellL O G st inp)) (orNil (fit I L st inp) (tellL D G st inp)) (orNil (fit I L st inp) (tellL C G st inp)) (errX (fit I L st inp))) := by
  cases h : fit I L st inp
  · exact Step_no I AL AG AO AB AC AN cL cG cO cB cC cN L G O D C N AS AI cs ci st inp w (fit_no h)
  · exact Step_yes I AL AG AO AB AC AN cL cG cO cB cC cN L G O D C N AS AI cs ci st inp w hA hS hI hM (fit_yes h).1 (fit_yes h).2
theorem refStep_any (I : Int) (AL AG AO AB AC AN : Option Addr) (cL cG cO cB cC cN : Nat) (L G : List Pr) (O D C : List Int) (N : List Nm) (AS AI : Option Addr) (cs ci : Nat) (st inp : List Bool) (w : World) (hA : RA w w.heap.size AL AG AO AB AC AN L G O D C N) (hS : RB w w.heap.size AS st) (hI : RB w w.heap.size AI inp) (zS : AS = none → cs = 0) (zI : AI = none → ci = 0) (hM : Md I L G O D C) :
    Calls Try.prog 16 #[.agg #[.int .i64 I, .slice AL L.length cL, .slice AG G.length cG, .slice AO O.length cO, .slice AB D.length cB, .slice AC C.length cC, .slice AN N.length cN], .slice AS st.length cs, .slice AI inp.length ci] w (RetT w (orNil (fit I L st inp) (nextL L G st inp)) (orNil (fit I L st inp) (tellL O G st inp)) (orNil (fit I L st inp) (tellL D G st inp)) (orNil (fit I L st inp) (tellL C G st inp)) (errX (fit I L st inp))) := by
  cases h : fit I L st inp
  · exact refStep_no I AL AG AO AB AC AN cL cG cO cB cC cN L G O D C N AS AI cs ci st inp w (fit_no h)
  · exact refStep_yes I AL AG AO AB AC AN cL cG cO cB cC cN L G O D C N AS AI cs ci st inp w hA hS hI zS zI hM (fit_yes h).1 (fit_yes h).2
def fitS (L : List Pr) (st : List Bool) : Bool := decide (st.length = L.length)
theorem Start_any (I : Int) (AL AG AO AB AC AN : Option Addr) (cL cG cO cB cC cN : Nat) (L G : List Pr) (O D C : List Int) (N : List Nm) (AS : Option Addr) (cs : Nat) (st : List Bool) (w : World) (hA : RA w w.heap.size AL AG AO AB AC AN L G O D C N) (hS : RB w w.heap.size AS st) (hM : Md I L G O D C) :
    Calls Try.prog 17 #[.agg #[.int .i64 I, .slice AL L.length cL, .slice AG G.length cG, .slice AO O.length cO, .slice AB D.length cB, .slice AC C.length cC, .slice AN N.length cN], .slice AS st.length cs] w (RetB0 w (orNil (fitS L st) (startL L st)) (errX (fitS L st))) := by
  cases h : fitS L st
  · exact Start_no I AL AG AO AB AC AN cL cG cO cB cC cN L G O D C N AS cs st w (by simpa [fitS] using h)
  · exact Start_yes I AL AG AO AB AC AN cL cG cO cB cC cN L G O D C N AS cs st w hA.l hS hM.nl (by simpa [fitS] using h)
theorem refStart_any (I : Int) (AL AG AO AB AC AN : Option Addr) (cL cG cO cB cC cN : Nat) (L G : List Pr) (O D C : List Int) (N : List Nm) (AS : Option Addr) (cs : Nat) (st : List Bool) (w : World) (hA : RA w w.heap.size AL AG AO AB AC AN L G O D C N) (hS : RB w w.heap.size AS st) (hM : Md I L G O D C) :
    Calls Try.prog 18 #[.agg #[.int .i64 I, .slice AL L.length cL, .slice AG G.length cG, .slice AO O.length cO, .slice AB D.length cB, .slice AC C.length cC, .slice AN N.length cN], .slice AS st.length cs] w (RetB0 w (orNil (fitS L st) (startL L st)) (errX (fitS L st))) := by
  cases h : fitS L st
  · exact refStart_no I AL AG AO AB AC AN cL cG cO cB cC cN L G O D C N AS cs st w (by simpa [fitS] using h)
  · exact refStart_yes I AL AG AO AB AC AN cL cG cO cB cC cN L G O D C N AS cs st w hA.l hS hM.nl (by simpa [fitS] using h)
def fitR (I : Int) (L : List Pr) (st : List Bool) (ins : List (List Bool)) : Bool := fitS L st && !badR I ins
theorem Run_any (I : Int) (AL AG AO AB AC AN : Option Addr) (cL cG cO cB cC cN : Nat) (L G : List Pr) (O D C : List Int) (N : List Nm) (AS AI : Option Addr) (cs ci : Nat) (st : List Bool) (ins : List (List Bool)) (w : World) (hA : RA w w.heap.size AL AG AO AB AC AN L G O D C N) (hS : RB w w.heap.size AS st) (hR : RR w w.heap.size AI ins) (hM : Md I L G O D C) (hn : ins.length ≤ 1000000) :
    Calls Try.prog 19 #[.agg #[.int .i64 I, .slice AL L.length cL, .slice AG G.length cG, .slice AO O.length cO, .slice AB D.length cB, .slice AC C.length cC, .slice AN N.length cN], .slice AS st.length cs, .slice AI ins.length ci] w (RetRR w (orNil (fitR I L st ins) (runL L G (startL L st) ins)) (errX (fitR I L st ins))) := by
  cases h : fitS L st
  · have e : fitR I L st ins = false := by simp [fitR, h]
    rw [e]
    exact Run_no I AL AG AO AB AC AN cL cG cO cB cC cN L G O D C N AS AI cs ci st ins w (by simpa [fitS] using h)
  · have h' : st.length = L.length := by simpa [fitS] using h
    cases hb : badR I ins
    · have e : fitR I L st ins = true := by simp [fitR, h, hb]
      rw [e]
      exact Run_yes I AL AG AO AB AC AN cL cG cO cB cC cN L G O D C N AS AI cs ci st ins w hA hS hR hM hn h' hb
    · have e : fitR I L st ins = false := by simp [fitR, h, hb]
      rw [e]
      exact Run_bad I AL AG AO AB AC AN cL cG cO cB cC cN L G O D C N AS AI cs ci st ins w hA.l hS hR hM.nl (by unfold maxLen; omega) h' hb
end Go.Proofs.Ytkdocjcpehmljaa
/- One statement's walk: SimShapes. -/
namespace Go.Proofs.Ytkdocjcpehmljaa
open Go.RowKit
theorem one_rr (w : World) (A : Option Addr) (c : Nat) (s : List Bool) (h : RB w w.heap.size A s) (h1 : s.length ≤ c) (h2 : c ≤ maxLen) (z : A = none → c = 0) : RR (w.alloc (.cells #[.slice A s.length c] 28)) (w.alloc (.cells #[.slice A s.length c] 28)).heap.size (some ⟨w.heap.size, 0, none⟩) [s] := by
  intro i hi
  match i, hi with
  | 0, _ => exact ⟨⟨w.heap.size, 0, none⟩, A, c, rfl, by simp, by rw [add_loc]; go_simp, h.nx (bal (Below.refl _ _) _), h1, h2, z⟩
set_option maxRecDepth 100000 in
set_option maxHeartbeats 8000000 in
theorem shapes_any (I : Int) (AL AG AO AB AC AN : Option Addr) (cL cG cO cB cC cN : Nat) (L G : List Pr) (O D C : List Int) (N : List Nm) (AS AI : Option Addr) (cs ci : Nat) (st inp : List Bool) (w : World) (hA : RA w w.heap.size AL AG AO AB AC AN L G O D C N) (lO : O.length ≤ maxLen) (lD : D.length ≤ maxLen) (lC : C.length ≤ maxLen) (lN : N.length ≤ maxLen)
    (hS : RB w w.heap.size AS st) (hI : RB w w.heap.size AI inp) (nS : st.length ≤ cs) (mS : cs ≤ maxLen) (zS : AS = none → cs = 0) (nI : inp.length ≤ ci) (mI : ci ≤ maxLen) (zI : AI = none → ci = 0) :
    Calls Try.prog 6 #[.agg #[.int .i64 I, .slice AL L.length cL, .slice AG G.length cG, .slice AO O.length cO, .slice AB D.length cB, .slice AC C.length cC, .slice AN N.length cN], .slice AS st.length cs, .slice AI inp.length ci] w (RetV w (.bool true)) := by
  have hb := bal (Below.refl w.heap.size w) (.cells #[.int .i64 I, .slice AL L.length cL, .slice AG G.length cG, .slice AO O.length cO, .slice AB D.length cB, .slice AC C.length cC, .slice AN N.length cN] 27)
  have hk := KA.new w I AL AG AO AB AC AN cL cG cO cB cC cN L G O D C N
  have hs0 : (w.alloc (.cells #[.int .i64 I, .slice AL L.length cL, .slice AG G.length cG, .slice AO O.length cO, .slice AB D.length cB, .slice AC C.length cC, .slice AN N.length cN] 27)).heap.size = w.heap.size + 1 := by simp
  have HS0 := Lib.hid hs0
  have CSH := shown_any (w.alloc (.cells #[.int .i64 I, .slice AL L.length cL, .slice AG G.length cG, .slice AO O.length cO, .slice AB D.length cB, .slice AC C.length cC, .slice AN N.length cN] 27))
  have HA := Lib.hid (hA.nx hb)
  have HB := Lib.hid hb
  have HK := Lib.hid hk
  have HS := Lib.hid (hS.nx hb)
  have HI := Lib.hid (hI.nx hb)
  have HNI := Lib.hid (And.intro nI (And.intro mI zI))
  have CM := May_any I AL AG AO AB AC AN cL cG cO cB cC cN L G O D C N
  have HCM := Lib.hid (fun wx h => CM wx h lO lD lC lN)
  have ls : st.length ≤ 9223372036854775807 := by unfold maxLen at mS; omega
  have li : inp.length ≤ 9223372036854775807 := by unfold maxLen at mI; omega
  clear hA hb hk hs0 hS hI CM lO lD lC lN nS mS nI mI zS zI
  go_enter Try.func6, Try.ntmps6
  go_wp2_with fail
  refine CSH.mono ?_; rintro e u1 ⟨rfl, hu1⟩
  generalize w.alloc (.cells #[.int .i64 I, .slice AL L.length cL, .slice AG G.length cG, .slice AO O.length cO, .slice AB D.length cB, .slice AC C.length cC, .slice AN N.length cN] 27) = w0 at *
  obtain ⟨k0, k1, k2, k3, k4, k5, k6⟩ := HK.out.nx hu1 (by have := HS0.out; omega)
  have HU1 := Lib.hid hu1
  have C1 := HCM.out u1 (HA.out.nx hu1)
  clear CSH hu1 HCM
  go_wp2_with fail
  refine C1.mono ?_; rintro e u2 ⟨bm, rfl, pm, hu2⟩
  have hU2 := bnx HU1.out hu2
  have HU2 := Lib.hid hU2
  have HF2 := Lib.hid (HB.out.trans (hU2.mono HB.out.size))
  obtain ⟨g0, g1, g2, g3, g4, g5, g6⟩ := HK.out.nx hU2 (by have := HS0.out; omega)
  have HP := Lib.hid pm
  clear C1 hu2 hU2 pm k0 k1 k2 k3 k4 k5 k6
  cases bm
  · clear g0 g1 g2 g3 g4 g5 g6
    go_wp2
    go_ret
    exact ⟨rfl, HF2.out⟩
  have hMd := HP.out (by simp)
  have HM := Lib.hid hMd.1
  clear HP hMd
  by_cases z1 : 60 < st.length
  · have d1 : decide (60 < st.length) = true := decide_eq_true z1
    have d2 : decide ((60 : Int) < (st.length : Int)) = true := decide_eq_true (by omega)
    clear g0 g1 g2 g3 g4 g5 g6
    go_wp2
    go_ret
    exact ⟨rfl, HF2.out⟩
  have d1 : decide (60 < st.length) = false := decide_eq_false z1
  have d2 : decide ((60 : Int) < (st.length : Int)) = false := decide_eq_false (by omega)
  by_cases z2 : 60 < inp.length
  · have d3 : decide (60 < inp.length) = true := decide_eq_true z2
    have d4 : decide ((60 : Int) < (inp.length : Int)) = true := decide_eq_true (by omega)
    clear g0 g1 g2 g3 g4 g5 g6
    go_wp2
    go_ret
    exact ⟨rfl, HF2.out⟩
  have d3 : decide (60 < inp.length) = false := decide_eq_false z2
  have d4 : decide ((60 : Int) < (inp.length : Int)) = false := decide_eq_false (by omega)
  have HCV : Hid (∀ wx, Below w0.heap.size w0 wx → Calls Try.prog 13 #[.agg #[.int .i64 I, .slice AL L.length cL, .slice AG G.length cG, .slice AO O.length cO, .slice AB D.length cB, .slice AC C.length cC, .slice AN N.length cN], .slice AS st.length cs, .slice AI inp.length ci] wx (RetB0 wx (orNil (fit I L st inp) (valsOf st inp G)) (errX (fit I L st inp)))) := Lib.hid fun wx hx => Values_any I AL AG AO AB AC AN cL cG cO cB cC cN L G O D C N AS AI cs ci st inp wx (HA.out.nx hx) (HS.out.nx hx) (HI.out.nx hx) HM.out
  have HCS : Hid (∀ wx, Below w0.heap.size w0 wx → Calls Try.prog 15 #[.agg #[.int .i64 I, .slice AL L.length cL, .slice AG G.length cG, .slice AO O.length cO, .slice AB D.length cB, .slice AC C.length cC, .slice AN N.length cN], .slice AS st.length cs, .slice AI inp.length ci] wx (RetT wx (orNil (fit I L st inp) (nextL L G st inp)) (orNil (fit I L st inp) (tellL O G st inp)) (orNil (fit I L st inp) (tellL D G st inp)) (orNil (fit I L st inp) (tellL C G st inp)) (errX (fit I L st inp)))) := Lib.hid fun wx hx => Step_any I AL AG AO AB AC AN cL cG cO cB cC cN L G O D C N AS AI cs ci st inp wx (HA.out.nx hx) (HS.out.nx hx) (HI.out.nx hx) HM.out
  have HCT : Hid (∀ wx, Below w0.heap.size w0 wx → Calls Try.prog 17 #[.agg #[.int .i64 I, .slice AL L.length cL, .slice AG G.length cG, .slice AO O.length cO, .slice AB D.length cB, .slice AC C.length cC, .slice AN N.length cN], .slice AS st.length cs] wx (RetB0 wx (orNil (fitS L st) (startL L st)) (errX (fitS L st)))) := Lib.hid fun wx hx => Start_any I AL AG AO AB AC AN cL cG cO cB cC cN L G O D C N AS cs st wx (HA.out.nx hx) (HS.out.nx hx) HM.out
  have HCR : Hid (∀ wx, Below w0.heap.size w0 wx → Calls Try.prog 19 #[.agg #[.int .i64 I, .slice AL L.length cL, .slice AG G.length cG, .slice AO O.length cO, .slice AB D.length cB, .slice AC C.length cC, .slice AN N.length cN], .slice AS st.length cs, .slice (some ⟨wx.heap.size, 0, none⟩) 1 1] (wx.alloc (.cells #[.slice AI inp.length ci] 28)) (RetRR (wx.alloc (.cells #[.slice AI inp.length ci] 28)) (orNil (fitR I L st [inp]) (runL L G (startL L st) [inp])) (errX (fitR I L st [inp])))) := Lib.hid fun wx hx => by
    have hx' := bnx hx (bal (Below.refl wx.heap.size wx) (.cells #[.slice AI inp.length ci] 28))
    exact Run_any I AL AG AO AB AC AN cL cG cO cB cC cN L G O D C N AS _ cs 1 st [inp] _ (HA.out.nx hx') (HS.out.nx hx') (one_rr wx AI ci inp (HI.out.nx hx) HNI.out.1 HNI.out.2.1 HNI.out.2.2) HM.out (by simp)
  have efR : fitR I L st [inp] = fit I L st inp := by
    unfold fitR fit fitS badR
    have : (!((inp.length : Int) != I)) = decide ((inp.length : Int) = I) := by by_cases h : (inp.length : Int) = I <;> simp [h]
    rw [List.any_cons, List.any_nil, Bool.or_false, this]
  rw [efR] at HCR
  have hfits : (st.length = L.length ∧ fitS L st = true) ∨ (¬ st.length = L.length ∧ fitS L st = false) := by
    by_cases h : st.length = L.length
    · exact .inl ⟨h, by simp [fitS, h]⟩
    · exact .inr ⟨h, by simp [fitS, h]⟩
  have hfit2 : (fitS L st = true → (inp.length : Int) = I → fit I L st inp = true) ∧ (fitS L st = false → fit I L st inp = false) ∧ (¬ (inp.length : Int) = I → fit I L st inp = false) := by
    refine ⟨fun h1 h2 => ?_, fun h1 => ?_, fun h2 => ?_⟩
    · have : decide (st.length = L.length) = true := h1
      unfold fit; rw [this, decide_eq_true h2]; rfl
    · have : decide (st.length = L.length) = false := h1
      unfold fit; rw [this]; rfl
    · unfold fit; rw [decide_eq_false h2]; simp
  have HM2 := Lib.hid HM.out
  clear efR HA HI HS HNI HM
  generalize valsOf st inp G = TV at *
  generalize nextL L G st inp = TN at *
  generalize tellL O G st inp = TO at *
  generalize tellL D G st inp = TD at *
  generalize tellL C G st inp = TC at *
  generalize startL L st = TS at *
  generalize runL L G TS [inp] = TR at *
  generalize fitS L st = f1 at *
  generalize fit I L st inp = f2 at *
  rcases hfits with ⟨hs, rfl⟩ | ⟨hs, rfl⟩
  · by_cases hi : (inp.length : Int) = I
    · have := hfit2.1 rfl hi
      subst this
      clear hfit2
      simp only [orNil, errX, if_true] at HCV HCS HCT HCR
      have d5 : decide (st.length = L.length) = true := decide_eq_true hs
      have d6 : ((st.length : Int) == (L.length : Int)) = true := by simp [hs]
      have d7 : ((inp.length : Int) == I) = true := by simpa using hi
      clear hs hi
      have c13 := HCV.out u2 HU2.out
      go_wp2_with fail
      refine c13.mono ?_; rintro e u3 ⟨A3, c3, rfl, _, _, _, _, hu3⟩
      have HU3 := Lib.hid (bnx HU2.out hu3)
      obtain ⟨k0, k1, k2, k3, k4, k5, k6⟩ := HK.out.nx HU3.out (by have := HS0.out; omega)
      have c15 := HCS.out u3 HU3.out
      clear c13 hu3 g0 g1 g2 g3 g4 g5 g6
      go_wp2_with fail
      refine c15.mono ?_; rintro e u4 ⟨vn, vo, vd, vc, rfl, ⟨An, cn, rfl, _⟩, ⟨Ao, co, rfl, _⟩, ⟨Ad, cd, rfl, _⟩, ⟨Ac, cc, rfl, _⟩, hu4⟩
      have HU4 := Lib.hid (bnx HU3.out hu4)
      obtain ⟨g0, g1, g2, g3, g4, g5, g6⟩ := HK.out.nx HU4.out (by have := HS0.out; omega)
      have hx4 := bal (Below.refl u4.heap.size u4) (.cells #[.slice Ao TO.length co, .slice Ad TD.length cd, .slice Ac TC.length cc] 40)
      have ht4 := T3.new u4 (.slice Ao TO.length co) (.slice Ad TD.length cd) (.slice Ac TC.length cc) 40
      have hs4 : (u4.alloc (.cells #[.slice Ao TO.length co, .slice Ad TD.length cd, .slice Ac TC.length cc] 40)).heap.size = u4.heap.size + 1 := by simp
      have HX4 := Lib.hid (bnx HU4.out hx4)
      have HT4 := Lib.hid ht4
      have HS4 := Lib.hid hs4
      clear c15 hu4 hx4 ht4 hs4 k0 k1 k2 k3 k4 k5 k6
      go_upto_region 6 with fail
      generalize (u4.alloc (.cells #[.slice Ao TO.length co, .slice Ad TD.length cd, .slice Ac TC.length cc] 40)) = x4 at *
      obtain ⟨b4, hb4⟩ : ∃ b, u4.heap.size = b := ⟨_, rfl⟩
      rw [hb4] at HT4 HS4 ⊢
      obtain ⟨k0, k1, k2, k3, k4, k5, k6⟩ := HK.out.nx HX4.out (by have := HS0.out; omega)
      have c17 := HCT.out x4 HX4.out
      clear g0 g1 g2 g3 g4 g5 g6 hb4
      go_wp2_with fail
      refine c17.mono ?_; rintro e u5 ⟨A5, c5, rfl, _, _, _, _, hu5⟩
      have HU5 := Lib.hid (bnx HX4.out hu5)
      have HT5 := Lib.hid (HT4.out.nx hu5 (by have := HS4.out; omega))
      have HS5 := Lib.hid (show b4 < u5.heap.size by have := HS4.out; have := hu5.size; omega)
      obtain ⟨g0, g1, g2, g3, g4, g5, g6⟩ := HK.out.nx HU5.out (by have := HS0.out; omega)
      have c19 := HCR.out u5 HU5.out
      clear c17 hu5 k0 k1 k2 k3 k4 k5 k6
      go_wp2_with fail
      refine c19.mono ?_; rintro e u6 ⟨A6, c6, rfl, _, _, _, _, hu6⟩
      have hx6 := bnx (bal (Below.refl u5.heap.size u5) (.cells #[.slice AI inp.length ci] 28)) hu6
      obtain ⟨e0, e1, e2, e3, e4, e5⟩ := HT5.out.nx hx6 HS5.out
      obtain ⟨k0, k1, k2, k3, k4, k5, k6⟩ := HK.out.nx (bnx HU5.out hx6) (by have := HS0.out; omega)
      have HFIN := Lib.hid (HB.out.trans ((bnx HU5.out hx6).mono HB.out.size))
      clear c19 hu6 hx6 g0 g1 g2 g3 g4 g5 g6 HT5 HS5 HT4 HS4 HCV HCS HCT HCR HK HX4
      go_wp2
      go_ret
      exact ⟨rfl, HFIN.out⟩
    · have := hfit2.2.2 hi
      subst this
      clear hfit2
      simp only [orNil, errX, if_true, Bool.false_eq_true, if_false] at HCV HCS HCT HCR
      have d5 : decide (st.length = L.length) = true := decide_eq_true hs
      have d6 : ((st.length : Int) == (L.length : Int)) = true := by simp [hs]
      have d7 : ((inp.length : Int) == I) = false := by simpa using hi
      clear hs hi
      have c13 := HCV.out u2 HU2.out
      go_wp2_with fail
      refine c13.mono ?_; rintro e u3 ⟨A3, c3, rfl, _, _, _, _, hu3⟩
      have HU3 := Lib.hid (bnx HU2.out hu3)
      obtain ⟨k0, k1, k2, k3, k4, k5, k6⟩ := HK.out.nx HU3.out (by have := HS0.out; omega)
      have c15 := HCS.out u3 HU3.out
      clear c13 hu3 g0 g1 g2 g3 g4 g5 g6
      go_wp2_with fail
      refine c15.mono ?_; rintro e u4 ⟨vn, vo, vd, vc, rfl, ⟨An, cn, rfl, _⟩, ⟨Ao, co, rfl, _⟩, ⟨Ad, cd, rfl, _⟩, ⟨Ac, cc, rfl, _⟩, hu4⟩
      have HU4 := Lib.hid (bnx HU3.out hu4)
      obtain ⟨g0, g1, g2, g3, g4, g5, g6⟩ := HK.out.nx HU4.out (by have := HS0.out; omega)
      have hx4 := bal (Below.refl u4.heap.size u4) (.cells #[.slice Ao 0 co, .slice Ad 0 cd, .slice Ac 0 cc] 40)
      have ht4 := T3.new u4 (.slice Ao 0 co) (.slice Ad 0 cd) (.slice Ac 0 cc) 40
      have hs4 : (u4.alloc (.cells #[.slice Ao 0 co, .slice Ad 0 cd, .slice Ac 0 cc] 40)).heap.size = u4.heap.size + 1 := by simp
      have HX4 := Lib.hid (bnx HU4.out hx4)
      have HT4 := Lib.hid ht4
      have HS4 := Lib.hid hs4
      clear c15 hu4 hx4 ht4 hs4 k0 k1 k2 k3 k4 k5 k6
      go_upto_region 6 with fail
      generalize (u4.alloc (.cells #[.slice Ao 0 co, .slice Ad 0 cd, .slice Ac 0 cc] 40)) = x4 at *
      obtain ⟨b4, hb4⟩ : ∃ b, u4.heap.size = b := ⟨_, rfl⟩
      rw [hb4] at HT4 HS4 ⊢
      obtain ⟨k0, k1, k2, k3, k4, k5, k6⟩ := HK.out.nx HX4.out (by have := HS0.out; omega)
      have c17 := HCT.out x4 HX4.out
      clear g0 g1 g2 g3 g4 g5 g6 hb4
      go_wp2_with fail
      refine c17.mono ?_; rintro e u5 ⟨A5, c5, rfl, _, _, _, _, hu5⟩
      have HU5 := Lib.hid (bnx HX4.out hu5)
      have HT5 := Lib.hid (HT4.out.nx hu5 (by have := HS4.out; omega))
      have HS5 := Lib.hid (show b4 < u5.heap.size by have := HS4.out; have := hu5.size; omega)
      obtain ⟨g0, g1, g2, g3, g4, g5, g6⟩ := HK.out.nx HU5.out (by have := HS0.out; omega)
      have c19 := HCR.out u5 HU5.out
      clear c17 hu5 k0 k1 k2 k3 k4 k5 k6
      go_wp2_with fail
      refine c19.mono ?_; rintro e u6 ⟨A6, c6, rfl, _, _, _, _, hu6⟩
      have hx6 := bnx (bal (Below.refl u5.heap.size u5) (.cells #[.slice AI inp.length ci] 28)) hu6
      obtain ⟨e0, e1, e2, e3, e4, e5⟩ := HT5.out.nx hx6 HS5.out
      obtain ⟨k0, k1, k2, k3, k4, k5, k6⟩ := HK.out.nx (bnx HU5.out hx6) (by have := HS0.out; omega)
      have HFIN := Lib.hid (HB.out.trans ((bnx HU5.out hx6).mono HB.out.size))
      clear c19 hu6 hx6 g0 g1 g2 g3 g4 g5 g6 HT5 HS5 HT4 HS4 HCV HCS HCT HCR HK HX4
      go_wp2
      go_ret
      exact ⟨rfl, HFIN.out⟩
  · have := hfit2.2.1 rfl
    subst this
    clear hfit2
    simp only [orNil, errX, Bool.false_eq_true, if_false] at HCV HCS HCT HCR
    have d5 : decide (st.length = L.length) = false := decide_eq_false hs
    have d6 : ((st.length : Int) == (L.length : Int)) = false := by simp; omega
    clear hs
    have c13 := HCV.out u2 HU2.out
    go_wp2_with fail
    refine c13.mono ?_; rintro e u3 ⟨A3, c3, rfl, _, _, _, _, hu3⟩
    have HU3 := Lib.hid (bnx HU2.out hu3)
    obtain ⟨k0, k1, k2, k3, k4, k5, k6⟩ := HK.out.nx HU3.out (by have := HS0.out; omega)
    have c15 := HCS.out u3 HU3.out
    clear c13 hu3 g0 g1 g2 g3 g4 g5 g6
    go_wp2_with fail
    refine c15.mono ?_; rintro e u4 ⟨vn, vo, vd, vc, rfl, ⟨An, cn, rfl, _⟩, ⟨Ao, co, rfl, _⟩, ⟨Ad, cd, rfl, _⟩, ⟨Ac, cc, rfl, _⟩, hu4⟩
    have HU4 := Lib.hid (bnx HU3.out hu4)
    obtain ⟨g0, g1, g2, g3, g4, g5, g6⟩ := HK.out.nx HU4.out (by have := HS0.out; omega)
    have hx4 := bal (Below.refl u4.heap.size u4) (.cells #[.slice Ao 0 co, .slice Ad 0 cd, .slice Ac 0 cc] 40)
    have ht4 := T3.new u4 (.slice Ao 0 co) (.slice Ad 0 cd) (.slice Ac 0 cc) 40
    have hs4 : (u4.alloc (.cells #[.slice Ao 0 co, .slice Ad 0 cd, .slice Ac 0 cc] 40)).heap.size = u4.heap.size + 1 := by simp
    have HX4 := Lib.hid (bnx HU4.out hx4)
    have HT4 := Lib.hid ht4
    have HS4 := Lib.hid hs4
    clear c15 hu4 hx4 ht4 hs4 k0 k1 k2 k3 k4 k5 k6
    go_upto_region 6 with fail
    generalize (u4.alloc (.cells #[.slice Ao 0 co, .slice Ad 0 cd, .slice Ac 0 cc] 40)) = x4 at *
    obtain ⟨b4, hb4⟩ : ∃ b, u4.heap.size = b := ⟨_, rfl⟩
    rw [hb4] at HT4 HS4 ⊢
    obtain ⟨k0, k1, k2, k3, k4, k5, k6⟩ := HK.out.nx HX4.out (by have := HS0.out; omega)
    have c17 := HCT.out x4 HX4.out
    clear g0 g1 g2 g3 g4 g5 g6 hb4
    go_wp2_with fail
    refine c17.mono ?_; rintro e u5 ⟨A5, c5, rfl, _, _, _, _, hu5⟩
    have HU5 := Lib.hid (bnx HX4.out hu5)
    have HT5 := Lib.hid (HT4.out.nx hu5 (by have := HS4.out; omega))
    have HS5 := Lib.hid (show b4 < u5.heap.size by have := HS4.out; have := hu5.size; omega)
    obtain ⟨g0, g1, g2, g3, g4, g5, g6⟩ := HK.out.nx HU5.out (by have := HS0.out; omega)
    have c19 := HCR.out u5 HU5.out
    clear c17 hu5 k0 k1 k2 k3 k4 k5 k6
    go_wp2_with fail
    refine c19.mono ?_; rintro e u6 ⟨A6, c6, rfl, _, _, _, _, hu6⟩
    have hx6 := bnx (bal (Below.refl u5.heap.size u5) (.cells #[.slice AI inp.length ci] 28)) hu6
    obtain ⟨e0, e1, e2, e3, e4, e5⟩ := HT5.out.nx hx6 HS5.out
    obtain ⟨k0, k1, k2, k3, k4, k5, k6⟩ := HK.out.nx (bnx HU5.out hx6) (by have := HS0.out; omega)
    have HFIN := Lib.hid (HB.out.trans ((bnx HU5.out hx6).mono HB.out.size))
    clear c19 hu6 hx6 g0 g1 g2 g3 g4 g5 g6 HT5 HS5 HT4 HS4 HCV HCS HCT HCR HK HX4
    go_wp2
    go_ret
    exact ⟨rfl, HFIN.out⟩
end Go.Proofs.Ytkdocjcpehmljaa
