/-
  One statement's walk: SimFirst.
-/
import Derived.Test.YtkdocjcpehmljaaProg
import Derived.WalkKit
import Derived.WalkSpells
import Derived.WalkLawsBesides
import Derived.Lib.Hide
import Derived.BigQuiet
import Derived.Deep.QuietTactic
import Derived.Deep.RegionWith
import Derived.Deep.RegionHeld3
import Derived.Test.YtkdocjcpehmljaaQ12
set_option linter.unusedVariables false
namespace Go.Proofs.Ytkdocjcpehmljaa
open Go.RowKit
theorem runL_nil (L G : List Pr) (s : List Bool) : runL L G s [] = [s] := rfl
theorem ini_self (y : Int) (b : Bool) (h : y = 0 ∨ y = 1 ∨ 2 ≤ y) : (1 < y ∧ ini y b = b) ∨ (¬ 1 < y ∧ y < 2 ∧ ini y b = (y == 1)) := by
  rcases h with rfl | rfl | h
  · exact .inr ⟨by omega, by omega, rfl⟩
  · exact .inr ⟨by omega, by omega, rfl⟩
  · refine .inl ⟨by omega, ?_⟩
    unfold ini; rw [if_neg (by omega), if_neg (by omega)]
set_option maxRecDepth 100000 in
set_option maxHeartbeats 8000000 in
theorem first_any (I : Int) (AL AG AO AB AC AN : Option Addr) (cL cG cO cB cC cN : Nat) (L G : List Pr) (O D C : List Int) (N : List Nm) (AS : Option Addr) (cs : Nat) (st : List Bool) (w : World) (hA : RA w w.heap.size AL AG AO AB AC AN L G O D C N) (lO : O.length ≤ maxLen) (lD : D.length ≤ maxLen) (lC : C.length ≤ maxLen) (lN : N.length ≤ maxLen)
    (hS : RB w w.heap.size AS st) (nS : st.length ≤ cs) (mS : cs ≤ maxLen) (zS : AS = none → cs = 0) :
    Calls Try.prog 9 #[.agg #[.int .i64 I, .slice AL L.length cL, .slice AG G.length cG, .slice AO O.length cO, .slice AB D.length cB, .slice AC C.length cC, .slice AN N.length cN], .slice AS st.length cs] w (RetV w (.bool true)) := by
  have hb := bal (Below.refl w.heap.size w) (.cells #[.int .i64 I, .slice AL L.length cL, .slice AG G.length cG, .slice AO O.length cO, .slice AB D.length cB, .slice AC C.length cC, .slice AN N.length cN] 27)
  have hk := KA.new w I AL AG AO AB AC AN cL cG cO cB cC cN L G O D C N
  have hs0 : (w.alloc (.cells #[.int .i64 I, .slice AL L.length cL, .slice AG G.length cG, .slice AO O.length cO, .slice AB D.length cB, .slice AC C.length cC, .slice AN N.length cN] 27)).heap.size = w.heap.size + 1 := by simp
  have HS0 := Lib.hid hs0
  have CSH := shown_any (w.alloc (.cells #[.int .i64 I, .slice AL L.length cL, .slice AG G.length cG, .slice AO O.length cO, .slice AB D.length cB, .slice AC C.length cC, .slice AN N.length cN] 27))
  have HA := Lib.hid (hA.nx hb)
  have HB := Lib.hid hb
  have HK := Lib.hid hk
  have HS := Lib.hid (hS.nx hb)
  have CM := May_any I AL AG AO AB AC AN cL cG cO cB cC cN L G O D C N
  have HCM := Lib.hid (fun wx h => CM wx h lO lD lC lN)
  have ls : st.length ≤ 9223372036854775807 := by unfold maxLen at mS; omega
  clear hA hb hk hs0 hS CM lO lD lC lN nS mS zS
  go_enter Try.func9, Try.ntmps9
  go_wp2_with fail
  refine CSH.mono ?_; rintro e u1 ⟨rfl, hu1⟩
  generalize w.alloc (.cells #[.int .i64 I, .slice AL L.length cL, .slice AG G.length cG, .slice AO O.length cO, .slice AB D.length cB, .slice AC C.length cC, .slice AN N.length cN] 27) = w0 at *
  obtain ⟨k0, k1, k2, k3, k4, k5, k6⟩ := HK.out.nx hu1 (by have := HS0.out; omega)
  have HU1 := Lib.hid hu1
  have C1 := HCM.out u1 (HA.out.nx hu1)
  clear CSH hu1 HCM
  go_wp2_with fail
  refine C1.mono ?_; rintro e u2 ⟨bm, rfl, pm, hu2⟩
  have hU2 := bnx HU1.out hu2
  have HU2 := Lib.hid hU2
  have HF2 := Lib.hid (HB.out.trans (hU2.mono HB.out.size))
  obtain ⟨g0, g1, g2, g3, g4, g5, g6⟩ := HK.out.nx hU2 (by have := HS0.out; omega)
  have HP := Lib.hid pm
  clear C1 hu2 hU2 pm k0 k1 k2 k3 k4 k5 k6
  cases bm
  · clear g0 g1 g2 g3 g4 g5 g6
    go_wp2
    go_ret
    exact ⟨rfl, HF2.out⟩
  have hMd := HP.out (by simp)
  have HM := Lib.hid hMd.1
  have HRS := Lib.hid hMd.2.2.2.2.2.2.2
  clear HP hMd
  by_cases z1 : 60 < st.length
  · have d1 : decide (60 < st.length) = true := decide_eq_true z1
    have d2 : decide ((60 : Int) < (st.length : Int)) = true := decide_eq_true (by omega)
    clear g0 g1 g2 g3 g4 g5 g6
    go_wp2
    go_ret
    exact ⟨rfl, HF2.out⟩
  have d1 : decide (60 < st.length) = false := decide_eq_false z1
  have d2 : decide ((60 : Int) < (st.length : Int)) = false := decide_eq_false (by omega)
  have HCT : Hid (∀ wx, Below w0.heap.size w0 wx → Calls Try.prog 17 #[.agg #[.int .i64 I, .slice AL L.length cL, .slice AG G.length cG, .slice AO O.length cO, .slice AB D.length cB, .slice AC C.length cC, .slice AN N.length cN], .slice AS st.length cs] wx (RetB0 wx (orNil (fitS L st) (startL L st)) (errX (fitS L st)))) := Lib.hid fun wx hx => Start_any I AL AG AO AB AC AN cL cG cO cB cC cN L G O D C N AS cs st wx (HA.out.nx hx) (HS.out.nx hx) HM.out
  have HCR : Hid (∀ wx, Below w0.heap.size w0 wx → Calls Try.prog 19 #[.agg #[.int .i64 I, .slice AL L.length cL, .slice AG G.length cG, .slice AO O.length cO, .slice AB D.length cB, .slice AC C.length cC, .slice AN N.length cN], .slice AS st.length cs, .slice none 0 0] wx (RetRR wx (orNil (fitS L st) [startL L st]) (errX (fitS L st)))) := Lib.hid fun wx hx => by
    have := Run_any I AL AG AO AB AC AN cL cG cO cB cC cN L G O D C N AS none cs 0 st [] wx (HA.out.nx hx) (HS.out.nx hx) (RR.nil _ _ _) HM.out (by simp)
    have e : fitR I L st [] = fitS L st := by simp [fitR, badR]
    rw [e, runL_nil] at this
    exact this
  by_cases hs : st.length = L.length
  · have e1 : fitS L st = true := by simp [fitS, hs]
    have hts := startL_len L st hs
    have hat := startL_at L st hs
    rw [e1] at HCT HCR
    simp only [orNil, errX, if_true] at HCT HCR
    have d6 : ((st.length : Int) != (L.length : Int)) = false := by simp [hs]
    have HLS := Lib.hid hs
    have HTS := Lib.hid hts
    have HAT := Lib.hid hat
    clear hs e1 hts hat
    generalize startL L st = TS at *
    have c17 := HCT.out u2 HU2.out
    go_wp2_with fail
    refine c17.mono ?_; rintro e u3 ⟨A3, c3, rfl, r3, z3, n3, m3, hu3⟩
    have HU3 := Lib.hid (bnx HU2.out hu3)
    have HR3 := Lib.hid r3
    obtain ⟨k0, k1, k2, k3, k4, k5, k6⟩ := HK.out.nx HU3.out (by have := HS0.out; omega)
    have c19 := HCR.out u3 HU3.out
    clear c17 hu3 r3 z3 n3 m3 g0 g1 g2 g3 g4 g5 g6 HCT HCR
    go_wp2_with fail
    refine c19.mono ?_; rintro e u4 ⟨A4, c4, rfl, r4, z4, n4, m4, hu4⟩
    obtain ⟨ad, A5, c5, ea, _, hc5, hr5, hn5, hm5, _⟩ := r4 0 (by simp)
    subst ea
    have ets : [TS].getD 0 [] = TS := rfl
    rw [ets] at hc5 hr5 hn5
    rw [add0] at hc5
    have r3' := HR3.out.nx hu4
    have hts60 : TS.length ≤ 60 := by rw [HTS.out]; omega
    have HU4 := Lib.hid (bnx HU3.out hu4)
    have CF : Hid (∀ wx, Below u4.heap.size u4 wx → Calls Try.prog 21 #[.slice A5 TS.length c5, .slice A3 TS.length c3] wx (RetV wx (.bool true))) := Lib.hid fun wx hx => by
      have := Flags_any A5 A3 c5 c3 TS TS wx (hr5.nx hx) (r3'.nx hx) (by unfold maxLen; omega) (by unfold maxLen; omega)
      rwa [show (TS == TS) = true by simp] at this
    have cf := CF.out u4 (Below.refl _ _)
    obtain ⟨g0, g1, g2, g3, g4, g5, g6⟩ := HK.out.nx HU4.out (by have := HS0.out; omega)
    have d7 : ((TS.length : Int) != (st.length : Int)) = false := by simp [HTS.out]
    have HR4 := Lib.hid r3'
    have hts' := hts60
    clear c19 hu4 z4 n4 m4 hr5 hn5 hm5 r3' CF r4 k0 k1 k2 k3 k4 k5 k6 ets hts60
    go_wp2_with fail
    refine cf.mono ?_; rintro e u5 ⟨rfl, hu5⟩
    have HU5 := Lib.hid (bnx HU4.out hu5)
    have HR5 := Lib.hid (HR4.out.nx hu5)
    have HF5 := Lib.hid (HB.out.trans (HU5.out.mono HB.out.size))
    obtain ⟨k0, k1, k2, k3, k4, k5, k6⟩ := HK.out.nx HU5.out (by have := HS0.out; omega)
    have HS5 := Lib.hid (HS.out.nx HU5.out)
    have HA5 := Lib.hid (HA.out.nx HU5.out)
    clear cf hu5 hc5 HR4 HR3 g0 g1 g2 g3 g4 g5 g6 HU4 HU3 HU2 HU1
    go_wp2
    go_loopg [10] TS.length (fun g s wr => ∃ (j q : Nat), j + g = TS.length ∧ s = .int .i64 j ∧ wr = u5.drewN q)
    case atStart => exact ⟨0, 0, by omega, rfl, rfl⟩
    case round =>
      obtain ⟨j, q, hj, rfl, rfl⟩ := hrel
      cases gk with
      | zero =>
        have q1 : ¬ ((j : Int) < TS.length) := by omega
        have q2 : ¬ (j < TS.length) := by omega
        clear k0 k1 k2 k3 k4 k5 k6
        go_wp2
        go_ret
        exact ⟨rfl, HF5.out.trans ((drw _).mono HF5.out.size)⟩
      | succ g =>
        have hjl : j < TS.length := by omega
        have hjl' : (j : Int) < TS.length := by omega
        have hjs : j < st.length := by have := HTS.out; omega
        have hjs' : (j : Int) < st.length := by omega
        have hjL : j < L.length := by have := HLS.out; omega
        have hjL' : (j : Int) < L.length := by omega
        obtain ⟨ad1, rfl, _, hq1⟩ := HR5.out j hjl
        obtain ⟨ad2, rfl, _, hq2⟩ := HS5.out j hjs
        obtain ⟨ad3, rfl, _, hq3, hq4⟩ := HA5.out.l j hjL
        have hg := HAT.out j hjs
        have hrs := HRS.out j hjL
        generalize TS.getD j false = a at *
        generalize st.getD j false = b at *
        generalize L.getD j (0, 0) = p at *
        obtain ⟨x, y⟩ := p
        simp only at hq3 hq4 hg hrs
        rcases hrs with rfl | rfl | y1
        · obtain rfl : a = false := by rw [hg]; rfl
          have d8 : decide ((1 : Int) < 0) = false := rfl
          have d9 : decide ((0 : Int) < 2) = true := rfl
          have d10 : (false != ((0 : Int) == 1)) = false := rfl
          clear HAT hg
          go_wp2
          go_quiet (fail)
          go_wp2
          go_roundg g
          case measure => omega
          case rel => exact ⟨j + 1, q + nq, by omega, by go_num, by first | rfl | rw [World.drewN_drewN]⟩
        · obtain rfl : a = true := by rw [hg]; rfl
          have d8 : decide ((1 : Int) < 1) = false := rfl
          have d9 : decide ((1 : Int) < 2) = true := rfl
          have d10 : (true != ((1 : Int) == 1)) = false := rfl
          clear HAT hg
          go_wp2
          go_quiet (fail)
          go_wp2
          go_roundg g
          case measure => omega
          case rel => exact ⟨j + 1, q + nq, by omega, by go_num, by first | rfl | rw [World.drewN_drewN]⟩
        · have e : ini y b = b := by unfold ini; rw [if_neg (by omega), if_neg (by omega)]
          rw [e] at hg
          subst hg
          have d8 : decide (1 < y) = true := decide_eq_true (by omega)
          have d9 : decide (y < 2) = false := decide_eq_false (by omega)
          have d10 : (a != a) = false := by simp
          clear e HAT
          go_wp2
          go_quiet (fail)
          go_wp2
          go_roundg g
          case measure => omega
          case rel => exact ⟨j + 1, q + nq, by omega, by go_num, by first | rfl | rw [World.drewN_drewN]⟩
  · have e1 : fitS L st = false := by simp [fitS, hs]
    rw [e1] at HCT HCR
    simp only [orNil, errX, Bool.false_eq_true, if_false] at HCT HCR
    have d6 : ((st.length : Int) != (L.length : Int)) = true := by simp; omega
    clear hs e1
    have c17 := HCT.out u2 HU2.out
    go_wp2_with fail
    refine c17.mono ?_; rintro e u3 ⟨A3, c3, rfl, _, _, _, _, hu3⟩
    have HU3 := Lib.hid (bnx HU2.out hu3)
    obtain ⟨k0, k1, k2, k3, k4, k5, k6⟩ := HK.out.nx HU3.out (by have := HS0.out; omega)
    have c19 := HCR.out u3 HU3.out
    clear c17 hu3 g0 g1 g2 g3 g4 g5 g6 HCT HCR
    go_wp2_with fail
    refine c19.mono ?_; rintro e u4 ⟨A4, c4, rfl, _, _, _, _, hu4⟩
    have HU4 := Lib.hid (bnx HU3.out hu4)
    obtain ⟨g0, g1, g2, g3, g4, g5, g6⟩ := HK.out.nx HU4.out (by have := HS0.out; omega)
    have HF4 := Lib.hid (HB.out.trans (HU4.out.mono HB.out.size))
    clear c19 hu4 k0 k1 k2 k3 k4 k5 k6
    go_wp2
    go_ret
    exact ⟨rfl, HF4.out⟩
end Go.Proofs.Ytkdocjcpehmljaa
