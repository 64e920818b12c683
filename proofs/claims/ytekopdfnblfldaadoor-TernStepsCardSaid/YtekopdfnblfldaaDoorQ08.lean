/-
  A step, of the program.
  The calls, whatever they are handed.
  tern.Values and the reference's; what a step tells.
-/
import Derived.Test.YtekopdfnblfldaaDoorProg
import Derived.WalkKit
import Derived.WalkSpells
import Derived.WalkLawsBesides
import Derived.Lib.Hide
import Derived.BigQuiet
import Derived.Deep.QuietTactic
import Derived.Deep.RegionWith
import Derived.Deep.RegionHeld3
import Derived.Test.YtekopdfnblfldaaDoorQ06
import Derived.Deep.DeepCutAuto
import Derived.Test.YtekopdfnblfldaaDoorQ07
import Derived.Test.YtekopdfnblfldaaDoorQ04
set_option linter.unusedVariables false
/- A step, of the program. -/
namespace Go.Proofs.YtekopdfnblfldaaDoor
open Go.RowKit
set_option maxRecDepth 100000 in
set_option maxHeartbeats 4000000 in
theorem Step_no (I : Int) (AL AG AO AB AC AN : Option Addr) (cL cG cO cB cC cN : Nat) (L G : List Pr) (O D C : List Int) (N : List Nm) (AS AI : Option Addr) (cs ci : Nat) (st inp : List Bool) (w : World) (h : ¬ (st.length = L.length ∧ (inp.length : Int) = I)) :
    Calls Tryd.prog 31 #[.agg #[.int .i64 I, .slice AL L.length cL, .slice AG G.length cG, .slice AO O.length cO, .slice AB D.length cB, .slice AC C.length cC, .slice AN N.length cN], .slice AS st.length cs, .slice AI inp.length ci] w (RetT w [] [] [] [] 7) := by
  have C1 := Values_no I AL AG AO AB AC AN cL cG cO cB cC cN L G O D C N AS AI cs ci st inp ((w.alloc (.cells #[.int .i64 I, .slice AL L.length cL, .slice AG G.length cG, .slice AO O.length cO, .slice AB D.length cB, .slice AC C.length cC, .slice AN N.length cN] 35)).alloc (.cells #[.slice none 0 0, .slice none 0 0, .slice none 0 0] 57)) h
  have hb := bal (bal (Below.refl w.heap.size w) (.cells #[.int .i64 I, .slice AL L.length cL, .slice AG G.length cG, .slice AO O.length cO, .slice AB D.length cB, .slice AC C.length cC, .slice AN N.length cN] 35)) (.cells #[.slice none 0 0, .slice none 0 0, .slice none 0 0] 57)
  have ht : T3 ((w.alloc (.cells #[.int .i64 I, .slice AL L.length cL, .slice AG G.length cG, .slice AO O.length cO, .slice AB D.length cB, .slice AC C.length cC, .slice AN N.length cN] 35)).alloc (.cells #[.slice none 0 0, .slice none 0 0, .slice none 0 0] 57)) (w.heap.size + 1) (.slice none 0 0) (.slice none 0 0) (.slice none 0 0) := by
    have := T3.new (w.alloc (.cells #[.int .i64 I, .slice AL L.length cL, .slice AG G.length cG, .slice AO O.length cO, .slice AB D.length cB, .slice AC C.length cC, .slice AN N.length cN] 35)) (.slice none 0 0) (.slice none 0 0) (.slice none 0 0) 57
    simpa using this
  have hs : ((w.alloc (.cells #[.int .i64 I, .slice AL L.length cL, .slice AG G.length cG, .slice AO O.length cO, .slice AB D.length cB, .slice AC C.length cC, .slice AN N.length cN] 35)).alloc (.cells #[.slice none 0 0, .slice none 0 0, .slice none 0 0] 57)).heap.size = w.heap.size + 2 := by simp
  clear h
  go_enter Tryd.func31, Tryd.ntmps31
  go_wp2_with fail
  refine C1.mono ?_; rintro e w1 ⟨A1, c1, rfl, _, _, _, _, hb1⟩
  have ht1 := ht.nx hb1 (by omega)
  have hB := hb.trans (hb1.mono (by omega))
  generalize (w.alloc (.cells #[.int .i64 I, .slice AL L.length cL, .slice AG G.length cG, .slice AO O.length cO, .slice AB D.length cB, .slice AC C.length cC, .slice AN N.length cN] 35)).alloc (.cells #[.slice none 0 0, .slice none 0 0, .slice none 0 0] 57) = w0 at *
  have hT := T3.put3 ht1 (.slice none 0 0) (.slice none 0 0) (.slice none 0 0)
  obtain ⟨e0, e1, e2, e3, e4, e5⟩ := ht1
  clear C1 ht hb hb1 hs
  go_wp2
  refine bodyPost_ret (v := .tuple #[.slice none 0 0, .agg #[.slice none 0 0, .slice none 0 0, .slice none 0 0], .int .i64 7]) ?r rfl ?_
  case r =>
    simp only [results, Tryd.f31]
    go_simp
  exact ⟨_, _, _, _, rfl, SB.nil _, SB.nil _, SB.nil _, SB.nil _, below_put3 hB (by omega) _ _ _⟩
/-- Where what comes out has been laid. -/
def StR (w1 : World) (o d c : List Bool) (s : Value) (wx : World) : Prop := ∃ g vo vd vc, s = .pointer (some ⟨g, 0, none⟩) ∧ T3 wx g vo vd vc ∧ SB wx vo o ∧ SB wx vd d ∧ SB wx vc c ∧ Below w1.heap.size w1 wx ∧ w1.heap.size ≤ g ∧ g < wx.heap.size
def Z3 : Obj := .cells #[.slice none 0 0, .slice none 0 0, .slice none 0 0] 57
theorem StR.ahead {w1 u : World} {o d c : List Bool} {v1 v2 v3 : Value} {g : Nat} (hU : Below w1.heap.size w1 u) (h1 : SB u v1 o) (h2 : SB u v2 d) (h3 : SB u v3 c) (ht : T3 u g (.slice none 0 0) (.slice none 0 0) (.slice none 0 0)) (hg : w1.heap.size ≤ g) (hl : g < u.heap.size) :
    StR w1 o d c (.pointer (some ⟨g, 0, none⟩)) (((u.setCell ⟨g, 0, none⟩ v1).setCell ⟨g, 1, none⟩ v2).setCell ⟨g, 2, none⟩ v3) :=
  ⟨g, v1, v2, v3, rfl, ht.put3 _ _ _, h1.put3 ht _ _ _, h2.put3 ht _ _ _, h3.put3 ht _ _ _, below_put3 hU hg _ _ _, hg, by simpa [put3] using hl⟩
theorem StR.last {w1 u : World} {o d c : List Bool} {v1 v2 v3 : Value} (hU : Below w1.heap.size w1 u) (h1 : SB u v1 o) (h2 : SB u v2 d) (h3 : SB u v3 c) :
    StR w1 o d c (.pointer (some ⟨u.heap.size, 0, none⟩)) (u.alloc (.cells #[v1, v2, v3] 57)) :=
  have hb := bal (Below.refl u.heap.size u) (.cells #[v1, v2, v3] 57)
  ⟨u.heap.size, v1, v2, v3, rfl, T3.new u v1 v2 v3 57, h1.nx hb, h2.nx hb, h3.nx hb, hU.alloc hU.size _, hU.size, by simp⟩
set_option maxRecDepth 100000 in
set_option maxHeartbeats 8000000 in
theorem Step_yes (I : Int) (AL AG AO AB AC AN : Option Addr) (cL cG cO cB cC cN : Nat) (L G : List Pr) (O D C : List Int) (N : List Nm) (AS AI : Option Addr) (cs ci : Nat) (st inp : List Bool) (w : World) (hA : RA w w.heap.size AL AG AO AB AC AN L G O D C N) (hS : RB w w.heap.size AS st) (hI : RB w w.heap.size AI inp) (hM : Md I L G O D C) (h1 : st.length = L.length) (h2 : (inp.length : Int) = I) :
    Calls Tryd.prog 31 #[.agg #[.int .i64 I, .slice AL L.length cL, .slice AG G.length cG, .slice AO O.length cO, .slice AB D.length cB, .slice AC C.length cC, .slice AN N.length cN], .slice AS st.length cs, .slice AI inp.length ci] w (RetT w (nextL L G st inp) (tellL O G st inp) (tellL D G st inp) (tellL C G st inp) 0) := by
  have hb := bal (bal (Below.refl w.heap.size w) (.cells #[.int .i64 I, .slice AL L.length cL, .slice AG G.length cG, .slice AO O.length cO, .slice AB D.length cB, .slice AC C.length cC, .slice AN N.length cN] 35)) (.cells #[.slice none 0 0, .slice none 0 0, .slice none 0 0] 57)
  have C1 := Values_yes I AL AG AO AB AC AN cL cG cO cB cC cN L G O D C N AS AI cs ci st inp ((w.alloc (.cells #[.int .i64 I, .slice AL L.length cL, .slice AG G.length cG, .slice AO O.length cO, .slice AB D.length cB, .slice AC C.length cC, .slice AN N.length cN] 35)).alloc (.cells #[.slice none 0 0, .slice none 0 0, .slice none 0 0] 57)) (hA.nx hb) (hS.nx hb) (hI.nx hb) hM h1 h2
  have ht : T3 ((w.alloc (.cells #[.int .i64 I, .slice AL L.length cL, .slice AG G.length cG, .slice AO O.length cO, .slice AB D.length cB, .slice AC C.length cC, .slice AN N.length cN] 35)).alloc (.cells #[.slice none 0 0, .slice none 0 0, .slice none 0 0] 57)) (w.heap.size + 1) (.slice none 0 0) (.slice none 0 0) (.slice none 0 0) := by
    have := T3.new (w.alloc (.cells #[.int .i64 I, .slice AL L.length cL, .slice AG G.length cG, .slice AO O.length cO, .slice AB D.length cB, .slice AC C.length cC, .slice AN N.length cN] 35)) (.slice none 0 0) (.slice none 0 0) (.slice none 0 0) 57
    simpa using this
  have hk : KA ((w.alloc (.cells #[.int .i64 I, .slice AL L.length cL, .slice AG G.length cG, .slice AO O.length cO, .slice AB D.length cB, .slice AC C.length cC, .slice AN N.length cN] 35)).alloc (.cells #[.slice none 0 0, .slice none 0 0, .slice none 0 0] 57)) w.heap.size I AL AG AO AB AC AN cL cG cO cB cC cN L G O D C N := by
    constructor <;> go_simp
  have hs : ((w.alloc (.cells #[.int .i64 I, .slice AL L.length cL, .slice AG G.length cG, .slice AO O.length cO, .slice AB D.length cB, .slice AC C.length cC, .slice AN N.length cN] 35)).alloc (.cells #[.slice none 0 0, .slice none 0 0, .slice none 0 0] 57)).heap.size = w.heap.size + 2 := by simp
  have hvl : (valsOf st inp G).length ≤ maxLen := by
    rw [valsOf_length]; have := hM.i1; have := hM.nl; have := hM.ng; unfold maxLen; omega
  have HM := Lib.hid hM
  have HA := Lib.hid (hA.nx hb)
  unfold nextL tellL
  clear hA hS hI hM h1 h2
  generalize valsOf st inp G = V at *
  obtain ⟨TN, hTN⟩ : ∃ T, L.map (fun p => lt V p.1) = T := ⟨_, rfl⟩
  obtain ⟨TO, hTO⟩ : ∃ T, O.map (lt V) = T := ⟨_, rfl⟩
  obtain ⟨TD, hTD⟩ : ∃ T, D.map (lt V) = T := ⟨_, rfl⟩
  obtain ⟨TC, hTC⟩ : ∃ T, C.map (lt V) = T := ⟨_, rfl⟩
  rw [hTN, hTO, hTD, hTC]
  have HTN := Lib.hid hTN
  have HTO := Lib.hid hTO
  have HTD := Lib.hid hTD
  have HTC := Lib.hid hTC
  clear hTN hTO hTD hTC
  go_enter Tryd.func31, Tryd.ntmps31
  go_wp2_with fail
  refine C1.mono ?_; rintro e w1 ⟨AV, cV, rfl, rV, zV, nV, mV, hb1⟩
  generalize (w.alloc (.cells #[.int .i64 I, .slice AL L.length cL, .slice AG G.length cG, .slice AO O.length cO, .slice AB D.length cB, .slice AC C.length cC, .slice AN N.length cN] 35)).alloc (.cells #[.slice none 0 0, .slice none 0 0, .slice none 0 0] 57) = w0 at *
  have HS := Lib.hid hs
  have HVL := Lib.hid hvl
  have HRV := Lib.hid rV
  have HB1 := Lib.hid hb1
  have HT := Lib.hid ht
  have HK := Lib.hid hk
  have HB := Lib.hid hb
  have HKA : Hid (∀ wx, Below w1.heap.size w1 wx → KA wx w.heap.size I AL AG AO AB AC AN cL cG cO cB cC cN L G O D C N) := Lib.hid fun wx hx => HK.out.nx (bnx HB1.out hx) (by have := HS.out; omega)
  have HKK : Hid (∀ wx, Below w1.heap.size w1 wx → wx.cell? ⟨w.heap.size, 3, none⟩ = some (.slice AO O.length cO) ∧ wx.cell? ⟨w.heap.size, 4, none⟩ = some (.slice AB D.length cB) ∧ wx.cell? ⟨w.heap.size, 5, none⟩ = some (.slice AC C.length cC)) := Lib.hid fun wx hx => ⟨(HKA.out wx hx).k3, (HKA.out wx hx).k4, (HKA.out wx hx).k5⟩
  have HPP : Hid (∀ wx, Below w1.heap.size w1 wx → ∀ g x y z, (((wx.setCell ⟨g, 0, none⟩ x).setCell ⟨g, 1, none⟩ y).setCell ⟨g, 2, none⟩ z).cell? ⟨w.heap.size, 3, none⟩ = some (.slice AO O.length cO) ∧ (((wx.setCell ⟨g, 0, none⟩ x).setCell ⟨g, 1, none⟩ y).setCell ⟨g, 2, none⟩ z).cell? ⟨w.heap.size, 4, none⟩ = some (.slice AB D.length cB) ∧ (((wx.setCell ⟨g, 0, none⟩ x).setCell ⟨g, 1, none⟩ y).setCell ⟨g, 2, none⟩ z).cell? ⟨w.heap.size, 5, none⟩ = some (.slice AC C.length cC)) := Lib.hid fun wx hx g x y z => by
    obtain ⟨q1, q2, q3⟩ := HKK.out wx hx
    refine ⟨?_, ?_, ?_⟩
    · rw [World.cell?_setCell_other _ _ _ _ (by simp), World.cell?_setCell_other _ _ _ _ (by simp), World.cell?_setCell_other _ _ _ _ (by simp)]; exact q1
    · rw [World.cell?_setCell_other _ _ _ _ (by simp), World.cell?_setCell_other _ _ _ _ (by simp), World.cell?_setCell_other _ _ _ _ (by simp)]; exact q2
    · rw [World.cell?_setCell_other _ _ _ _ (by simp), World.cell?_setCell_other _ _ _ _ (by simp), World.cell?_setCell_other _ _ _ _ (by simp)]; exact q3
  have LL : Hid (∀ (A : Option Addr) (c : Nat) (l : List Int) (wx : World), Lits l → l.length ≤ 1000000 → RI w0 w0.heap.size A l → Below w1.heap.size w1 wx → Calls Tryd.prog 47 #[.slice A l.length c, .func (.func 46) #[.slice AV V.length cV] #[]] wx (RetB wx (l.map (lt V)))) := Lib.hid fun A c l wx hl hn hr hx => rowI_any A AV c cV l V wx ((hr.nx HB1.out).nx hx) (HRV.out.nx hx) hn HVL.out hl
  have L1 : Hid (∀ wx, Below w1.heap.size w1 wx → Calls Tryd.prog 47 #[.slice AO O.length cO, .func (.func 46) #[.slice AV V.length cV] #[]] wx (RetB wx TO)) := Lib.hid fun wx hx => by have := LL.out AO cO O wx HM.out.lo HM.out.no HA.out.o hx; rwa [HTO.out] at this
  have L2 : Hid (∀ wx, Below w1.heap.size w1 wx → Calls Tryd.prog 47 #[.slice AB D.length cB, .func (.func 46) #[.slice AV V.length cV] #[]] wx (RetB wx TD)) := Lib.hid fun wx hx => by have := LL.out AB cB D wx HM.out.ld HM.out.nd HA.out.d hx; rwa [HTD.out] at this
  have L3 : Hid (∀ wx, Below w1.heap.size w1 wx → Calls Tryd.prog 47 #[.slice AC C.length cC, .func (.func 46) #[.slice AV V.length cV] #[]] wx (RetB wx TC)) := Lib.hid fun wx hx => by have := LL.out AC cC C wx HM.out.lc HM.out.nc HA.out.c hx; rwa [HTC.out] at this
  have LN : Hid (∀ wx, Below w1.heap.size w1 wx → Calls Tryd.prog 48 #[.agg #[.int .i64 I, .slice AL L.length cL, .slice AG G.length cG, .slice AO O.length cO, .slice AB D.length cB, .slice AC C.length cC, .slice AN N.length cN], .slice AV V.length cV] wx (RetB wx TN)) := Lib.hid fun wx hx => by have := next_any I AL AG AO AB AC AN cL cG cO cB cC cN L G O D C N AV cV V wx ((HA.out.l.nx HB1.out).nx hx) (HRV.out.nx hx) HM.out.nl HVL.out HM.out.ll; rwa [HTN.out] at this
  clear C1 hs hvl rV zV nV mV hb1 ht hk hb LL HRV HVL HM HA HTO HTD HTC HTN
  go_upto_region 5 with fail
  go_cut [12] (fun s12 wx => StR w1 TO TD TC s12 wx)
  case first =>
    have hU := (Below.refl w1.heap.size w1).drew
    have hV := hU.alloc hU.size Z3
    have K0 := HKK.out _ hU
    have K0a := HKK.out _ hV
    have t0 : T3 (w1.drew.alloc Z3) w1.heap.size (.slice none 0 0) (.slice none 0 0) (.slice none 0 0) := T3.new w1.drew _ _ _ 57
    have s0 : w1.heap.size < (w1.drew.alloc Z3).heap.size := by simp
    unfold Z3 at hV K0a t0 s0
    go_region_held3 (fun w' => w'.cell? ⟨w.heap.size, 3, none⟩ = some (.slice AO O.length cO) ∧ w'.cell? ⟨w.heap.size, 4, none⟩ = some (.slice AB D.length cB) ∧ w'.cell? ⟨w.heap.size, 5, none⟩ = some (.slice AC C.length cC))
      (first | exact K0 | exact K0a | exact K1 | exact K1a | exact K2 | exact K2a | exact K3 | exact K3a | exact K3c | exact K4 _ _ _ _)
      (first
        | (go_at_call 47; ((with_reducible refine (L1.out _ hU).mono ?_); rintro e u1 ⟨A1, c1, rfl, r1, z1, n1, m1, hu1⟩; have S1 : SB u1 (.slice A1 TO.length c1) TO := ⟨A1, c1, rfl, r1, z1, n1, m1⟩; have U1 := bnx hU hu1; have K1 := HKK.out _ U1; have U1a := U1.alloc U1.size (.cells #[.slice none 0 0, .slice none 0 0, .slice none 0 0] 57); have K1a := HKK.out _ U1a; have tb1 := T3.new u1 (.slice none 0 0) (.slice none 0 0) (.slice none 0 0) 57; have lb1 : u1.heap.size < (u1.alloc (.cells #[.slice none 0 0, .slice none 0 0, .slice none 0 0] 57)).heap.size := by simp))
        | (go_at_call 47; ((with_reducible refine (L2.out _ U1).mono ?_); rintro e u2 ⟨A2, c2, rfl, r2, z2, n2, m2, hu2⟩; have S2 : SB u2 (.slice A2 TD.length c2) TD := ⟨A2, c2, rfl, r2, z2, n2, m2⟩; have S1x := S1.nx hu2; have U2 := bnx U1 hu2; have K2 := HKK.out _ U2; have T2 := T1.nx hu2 l1; have l2 := Nat.lt_of_lt_of_le l1 hu2.size))
        | (go_at_call 47; ((with_reducible refine (L2.out _ U1a).mono ?_); rintro e u2 ⟨A2, c2, rfl, r2, z2, n2, m2, hu2⟩; have S2 : SB u2 (.slice A2 TD.length c2) TD := ⟨A2, c2, rfl, r2, z2, n2, m2⟩; have S1x := (S1.nx (bal (Below.refl _ _) _)).nx hu2; have U2 := bnx U1a hu2; have K2 := HKK.out _ U2; have T2 := tb1.nx hu2 lb1; have l2 := Nat.lt_of_lt_of_le lb1 hu2.size))
        | (go_at_call 47; ((with_reducible refine (L2.out _ U1).mono ?_); rintro e u2 ⟨A2, c2, rfl, r2, z2, n2, m2, hu2⟩; have S2 : SB u2 (.slice A2 TD.length c2) TD := ⟨A2, c2, rfl, r2, z2, n2, m2⟩; have S1x := S1.nx hu2; have U2 := bnx U1 hu2; have K2 := HKK.out _ U2; have U2a := U2.alloc U2.size (.cells #[.slice none 0 0, .slice none 0 0, .slice none 0 0] 57); have K2a := HKK.out _ U2a; have tb2 := T3.new u2 (.slice none 0 0) (.slice none 0 0) (.slice none 0 0) 57; have lb2 : u2.heap.size < (u2.alloc (.cells #[.slice none 0 0, .slice none 0 0, .slice none 0 0] 57)).heap.size := by simp))
        | (go_at_call 47; ((with_reducible refine (L3.out _ U2).mono ?_); rintro e u3 ⟨A3, c3, rfl, r3, z3, n3, m3, hu3⟩; have S3 : SB u3 (.slice A3 TC.length c3) TC := ⟨A3, c3, rfl, r3, z3, n3, m3⟩; have S1y := S1x.nx hu3; have S2y := S2.nx hu3; have U3 := bnx U2 hu3; have K3 := HKK.out _ U3; have T3f := T2.nx hu3 l2; have l3 := Nat.lt_of_lt_of_le l2 hu3.size; have K4 := HPP.out _ U3; obtain ⟨e0, e1, e2, e3, e4, e5⟩ := T3f))
        | (go_at_call 47; ((with_reducible refine (L3.out _ U2a).mono ?_); rintro e u3 ⟨A3, c3, rfl, r3, z3, n3, m3, hu3⟩; have S3 : SB u3 (.slice A3 TC.length c3) TC := ⟨A3, c3, rfl, r3, z3, n3, m3⟩; have S1y := (S1x.nx (bal (Below.refl _ _) _)).nx hu3; have S2y := (S2.nx (bal (Below.refl _ _) _)).nx hu3; have U3 := bnx U2a hu3; have K3 := HKK.out _ U3; have T3f := tb2.nx hu3 lb2; have l3 := Nat.lt_of_lt_of_le lb2 hu3.size; have K4 := HPP.out _ U3; obtain ⟨e0, e1, e2, e3, e4, e5⟩ := T3f))
        | (go_at_call 47; ((with_reducible refine (L3.out _ U2).mono ?_); rintro e u3 ⟨A3, c3, rfl, r3, z3, n3, m3, hu3⟩; have S3 : SB u3 (.slice A3 TC.length c3) TC := ⟨A3, c3, rfl, r3, z3, n3, m3⟩; have S1y := S1x.nx hu3; have S2y := S2.nx hu3; have U3 := bnx U2 hu3; have K3 := HKK.out _ U3; have U3a := U3.alloc U3.size (.cells #[.slice none 0 0, .slice none 0 0, .slice none 0 0] 57); have K3a := HKK.out _ U3a; have K3c := HKK.out _ (U3.alloc U3.size (.cells #[.slice A1 TO.length c1, .slice A2 TD.length c2, .slice A3 TC.length c3] 57))))
        | (go_at_call 47; ((refine (L1.out _ hV).mono ?_); rintro e u1 ⟨A1, c1, rfl, r1, z1, n1, m1, hu1⟩; have S1 : SB u1 (.slice A1 TO.length c1) TO := ⟨A1, c1, rfl, r1, z1, n1, m1⟩; have U1 := bnx hV hu1; have K1 := HKK.out _ U1; have T1 := t0.nx hu1 s0; have l1 : w1.heap.size < u1.heap.size := Nat.lt_of_lt_of_le s0 hu1.size)))
    all_goals (go_wp2_with fail; go_meet; first | exact StR.last U3 S1y S2y S3 | exact StR.ahead U3 S1y S2y S3 ⟨e0, e1, e2, e3, e4, e5⟩ (by first | exact Nat.le_refl _ | exact U1.size | exact U2.size) l3)
  case rest =>
    obtain ⟨g, vo, vd, vc, rfl, tg, so, sd, sc, hbl, hg1, hg2⟩ := hcut
    obtain ⟨Ao, co, rfl, zo⟩ := so
    obtain ⟨Ad, cd, rfl, zd⟩ := sd
    obtain ⟨Ac, cc, rfl, zc⟩ := sc
    have so : SB wc (.slice Ao TO.length co) TO := ⟨Ao, co, rfl, zo⟩
    have sd : SB wc (.slice Ad TD.length cd) TD := ⟨Ad, cd, rfl, zd⟩
    have sc : SB wc (.slice Ac TC.length cc) TC := ⟨Ac, cc, rfl, zc⟩
    have hgne : ¬ (w.heap.size + 1 = g) := by have := HS.out; have := HB1.out.size; omega
    have HBL := Lib.hid hbl
    have HKG : Hid (∀ wx, Below wc.heap.size wc wx → wx.cell? ⟨w.heap.size, 0, none⟩ = some (.int .i64 I) ∧ wx.cell? ⟨w.heap.size, 1, none⟩ = some (.slice AL L.length cL) ∧ wx.cell? ⟨w.heap.size, 2, none⟩ = some (.slice AG G.length cG) ∧ wx.cell? ⟨w.heap.size, 3, none⟩ = some (.slice AO O.length cO) ∧ wx.cell? ⟨w.heap.size, 4, none⟩ = some (.slice AB D.length cB) ∧ wx.cell? ⟨w.heap.size, 5, none⟩ = some (.slice AC C.length cC) ∧ wx.cell? ⟨w.heap.size, 6, none⟩ = some (.slice AN N.length cN) ∧ wx.cell? ⟨g, 0, none⟩ = some (.slice Ao TO.length co) ∧ wx.cell? ⟨g, 1, none⟩ = some (.slice Ad TD.length cd) ∧ wx.cell? ⟨g, 2, none⟩ = some (.slice Ac TC.length cc)) := Lib.hid fun wx hx => by
      have q := HKA.out wx (bnx HBL.out hx)
      have r := tg.nx hx hg2
      exact ⟨q.k0, q.k1, q.k2, q.k3, q.k4, q.k5, q.k6, r.c0, r.c1, r.c2⟩
    have HPG : Hid (∀ wx, Below wc.heap.size wc wx → ∀ x y z, (((wx.setCell ⟨w.heap.size + 1, 0, none⟩ x).setCell ⟨w.heap.size + 1, 1, none⟩ y).setCell ⟨w.heap.size + 1, 2, none⟩ z).cell? ⟨w.heap.size, 0, none⟩ = some (.int .i64 I) ∧ (((wx.setCell ⟨w.heap.size + 1, 0, none⟩ x).setCell ⟨w.heap.size + 1, 1, none⟩ y).setCell ⟨w.heap.size + 1, 2, none⟩ z).cell? ⟨w.heap.size, 1, none⟩ = some (.slice AL L.length cL) ∧ (((wx.setCell ⟨w.heap.size + 1, 0, none⟩ x).setCell ⟨w.heap.size + 1, 1, none⟩ y).setCell ⟨w.heap.size + 1, 2, none⟩ z).cell? ⟨w.heap.size, 2, none⟩ = some (.slice AG G.length cG) ∧ (((wx.setCell ⟨w.heap.size + 1, 0, none⟩ x).setCell ⟨w.heap.size + 1, 1, none⟩ y).setCell ⟨w.heap.size + 1, 2, none⟩ z).cell? ⟨w.heap.size, 3, none⟩ = some (.slice AO O.length cO) ∧ (((wx.setCell ⟨w.heap.size + 1, 0, none⟩ x).setCell ⟨w.heap.size + 1, 1, none⟩ y).setCell ⟨w.heap.size + 1, 2, none⟩ z).cell? ⟨w.heap.size, 4, none⟩ = some (.slice AB D.length cB) ∧ (((wx.setCell ⟨w.heap.size + 1, 0, none⟩ x).setCell ⟨w.heap.size + 1, 1, none⟩ y).setCell ⟨w.heap.size + 1, 2, none⟩ z).cell? ⟨w.heap.size, 5, none⟩ = some (.slice AC C.length cC) ∧ (((wx.setCell ⟨w.heap.size + 1, 0, none⟩ x).setCell ⟨w.heap.size + 1, 1, none⟩ y).setCell ⟨w.heap.size + 1, 2, none⟩ z).cell? ⟨w.heap.size, 6, none⟩ = some (.slice AN N.length cN) ∧ (((wx.setCell ⟨w.heap.size + 1, 0, none⟩ x).setCell ⟨w.heap.size + 1, 1, none⟩ y).setCell ⟨w.heap.size + 1, 2, none⟩ z).cell? ⟨g, 0, none⟩ = some (.slice Ao TO.length co) ∧ (((wx.setCell ⟨w.heap.size + 1, 0, none⟩ x).setCell ⟨w.heap.size + 1, 1, none⟩ y).setCell ⟨w.heap.size + 1, 2, none⟩ z).cell? ⟨g, 1, none⟩ = some (.slice Ad TD.length cd) ∧ (((wx.setCell ⟨w.heap.size + 1, 0, none⟩ x).setCell ⟨w.heap.size + 1, 1, none⟩ y).setCell ⟨w.heap.size + 1, 2, none⟩ z).cell? ⟨g, 2, none⟩ = some (.slice Ac TC.length cc)) := Lib.hid fun wx hx x y z => by
      obtain ⟨q0, q1, q2, q3, q4, q5, q6, q7, q8, q9⟩ := HKG.out wx hx
      refine ⟨?_, ?_, ?_, ?_, ?_, ?_, ?_, ?_, ?_, ?_⟩ <;> rw [World.cell?_setCell_other _ _ _ _ (by first | (simp; done) | simp [hgne]), World.cell?_setCell_other _ _ _ _ (by first | (simp; done) | simp [hgne]), World.cell?_setCell_other _ _ _ _ (by first | (simp; done) | simp [hgne])]
      · exact q0
      · exact q1
      · exact q2
      · exact q3
      · exact q4
      · exact q5
      · exact q6
      · exact q7
      · exact q8
      · exact q9
    have HT7 : Hid (∀ wx, Below wc.heap.size wc wx → T3 wx (w.heap.size + 1) (.slice none 0 0) (.slice none 0 0) (.slice none 0 0)) := Lib.hid fun wx hx => HT.out.nx (bnx HB1.out (bnx HBL.out hx)) (by have := HS.out; omega)
    have hU := (Below.refl wc.heap.size wc).drew
    have K0 := HKG.out _ hU
    obtain ⟨e0, e1, e2, e3, e4, e5⟩ := HT7.out _ hU
    have HSO := Lib.hid (And.intro so (And.intro sd sc))
    have LN1 : Hid (∀ wx, Below wc.heap.size wc wx → Calls Tryd.prog 48 #[.agg #[.int .i64 I, .slice AL L.length cL, .slice AG G.length cG, .slice AO O.length cO, .slice AB D.length cB, .slice AC C.length cC, .slice AN N.length cN], .slice AV V.length cV] wx (RetB wx TN)) := Lib.hid fun wx hx => LN.out wx (bnx HBL.out hx)
    clear tg so sd sc zo zd zc hbl e0 e1 e2 e3 e4 e5 HKA HKK HPP L1 L2 L3 LN
    go_wp2_with fail
    go_region_held3 (fun w' => w'.cell? ⟨w.heap.size, 0, none⟩ = some (.int .i64 I) ∧ w'.cell? ⟨w.heap.size, 1, none⟩ = some (.slice AL L.length cL) ∧ w'.cell? ⟨w.heap.size, 2, none⟩ = some (.slice AG G.length cG) ∧ w'.cell? ⟨w.heap.size, 3, none⟩ = some (.slice AO O.length cO) ∧ w'.cell? ⟨w.heap.size, 4, none⟩ = some (.slice AB D.length cB) ∧ w'.cell? ⟨w.heap.size, 5, none⟩ = some (.slice AC C.length cC) ∧ w'.cell? ⟨w.heap.size, 6, none⟩ = some (.slice AN N.length cN) ∧ w'.cell? ⟨g, 0, none⟩ = some (.slice Ao TO.length co) ∧ w'.cell? ⟨g, 1, none⟩ = some (.slice Ad TD.length cd) ∧ w'.cell? ⟨g, 2, none⟩ = some (.slice Ac TC.length cc))
      (first | exact K0 | exact K1 | exact K4 _ _ _)
      (first
        | (go_at_call 48; ((with_reducible refine (LN1.out _ hU).mono ?_); rintro e u1 ⟨A1, c1, rfl, r1, z1, n1, m1, hu1⟩; have U1 := bnx hU hu1; have K1 := HKG.out _ U1; have K4 := HPG.out _ U1; obtain ⟨e0, e1, e2, e3, e4, e5⟩ := HT7.out _ U1)))
    have TT := HT7.out _ U1
    have F1 := SB.put3 (⟨A1, c1, rfl, r1, z1, n1, m1⟩ : SB u1 (.slice A1 TN.length c1) TN) TT (.slice Ao TO.length co) (.slice Ad TD.length cd) (.slice Ac TC.length cc)
    have F2 := (HSO.out.1.nx U1).put3 TT (.slice Ao TO.length co) (.slice Ad TD.length cd) (.slice Ac TC.length cc)
    have F3 := (HSO.out.2.1.nx U1).put3 TT (.slice Ao TO.length co) (.slice Ad TD.length cd) (.slice Ac TC.length cc)
    have F4 := (HSO.out.2.2.nx U1).put3 TT (.slice Ao TO.length co) (.slice Ad TD.length cd) (.slice Ac TC.length cc)
    have F5 := below_put3 (HB.out.trans ((bnx HB1.out (bnx HBL.out U1)).mono HB.out.size)) (b := w.heap.size + 1) (by omega) (.slice Ao TO.length co) (.slice Ad TD.length cd) (.slice Ac TC.length cc)
    have F6 := TT.put3 (.slice Ao TO.length co) (.slice Ad TD.length cd) (.slice Ac TC.length cc)
    unfold put3 at F1 F2 F3 F4 F5 F6
    generalize ((u1.setCell ⟨w.heap.size + 1, 0, none⟩ (.slice Ao TO.length co)).setCell ⟨w.heap.size + 1, 1, none⟩ (.slice Ad TD.length cd)).setCell ⟨w.heap.size + 1, 2, none⟩ (.slice Ac TC.length cc) = P at *
    have HF := Lib.hid (And.intro F1 (And.intro F2 (And.intro F3 (And.intro F4 F5))))
    clear F1 F2 F3 F4 F5 TT K0 K1 K4 U1 hu1 r1 z1 n1 m1 e0 e1 e2 e3 e4 e5 hU HKG HPG HT7 LN1
    obtain ⟨e0, e1, e2, e3, e4, e5⟩ := F6
    go_wp2
    refine bodyPost_ret (v := .tuple #[.slice A1 TN.length c1, .agg #[(.slice Ao TO.length co), (.slice Ad TD.length cd), (.slice Ac TC.length cc)], .int .i64 0]) ?r rfl ?_
    case r =>
      simp only [results, Tryd.f31]
      go_simp
    exact ⟨_, _, _, _, rfl, HF.out.1, HF.out.2.1, HF.out.2.2.1, HF.out.2.2.2.1, HF.out.2.2.2.2⟩
end Go.Proofs.YtekopdfnblfldaaDoor
/- The calls, whatever they are handed. -/
namespace Go.Proofs.YtekopdfnblfldaaDoor
open Go.RowKit
/-- Do a state and inputs fit? -/
def fit (I : Int) (L : List Pr) (st inp : List Bool) : Bool := decide (st.length = L.length) && decide ((inp.length : Int) = I)
def errX (b : Bool) : Int := if b then 0 else 7
def orNil {α : Type} (b : Bool) (l : List α) : List α := if b then l else []
theorem fit_yes {I : Int} {L : List Pr} {st inp : List Bool} (h : fit I L st inp = true) : st.length = L.length ∧ (inp.length : Int) = I := by
  simpa [fit] using h
theorem fit_no {I : Int} {L : List Pr} {st inp : List Bool} (h : fit I L st inp = false) : ¬ (st.length = L.length ∧ (inp.length : Int) = I) := by
  intro h'
  rw [fit, decide_eq_true h'.1, decide_eq_true h'.2] at h
  cases h
theorem Values_any (I : Int) (AL AG AO AB AC AN : Option Addr) (cL cG cO cB cC cN : Nat) (L G : List Pr) (O D C : List Int) (N : List Nm) (AS AI : Option Addr) (cs ci : Nat) (st inp : List Bool) (w : World) (hA : RA w w.heap.size AL AG AO AB AC AN L G O D C N) (hS : RB w w.heap.size AS st) (hI : RB w w.heap.size AI inp) (hM : Md I L G O D C) :
    Calls Tryd.prog 30 #[.agg #[.int .i64 I, .slice AL L.length cL, .slice AG G.length cG, .slice AO O.length cO, .slice AB D.length cB, .slice AC C.length cC, .slice AN N.length cN], .slice AS st.length cs, .slice AI inp.length ci] w (RetB0 w (orNil (fit I L st inp) (valsOf st inp G)) (errX (fit I L st inp))) := by
  cases h : fit I L st inp
  · exact Values_no I AL AG AO AB AC AN cL cG cO cB cC cN L G O D C N AS AI cs ci st inp w (fit_no h)
  · exact Values_yes I AL AG AO AB AC AN cL cG cO cB cC cN L G O D C N AS AI cs ci st inp w hA hS hI hM (fit_yes h).1 (fit_yes h).2
theorem Step_any (I : Int) (AL AG AO AB AC AN : Option Addr) (cL cG cO cB cC cN : Nat) (L G : List Pr) (O D C : List Int) (N : List Nm) (AS AI : Option Addr) (cs ci : Nat) (st inp : List Bool) (w : World) (hA : RA w w.heap.size AL AG AO AB AC AN L G O D C N) (hS : RB w w.heap.size AS st) (hI : RB w w.heap.size AI inp) (hM : Md I L G O D C) :
    Calls Tryd.prog 31 #[.agg #[.int .i64 I, .slice AL L.length cL, .slice AG G.length cG, .slice AO O.length cO, .slice AB D.length cB, .slice AC C.length cC, .slice AN N.length cN], .slice AS st.length cs, .slice AI inp.length ci] w (RetT w (orNil (fit I L st inp) (nextL L G st inp)) (orNil (fit I L st inp) (tellL O G st inp)) (orNil (fit I L st inp) (tellL D G st inp)) (orNil (fit I L st inp) (tellL C G st inp)) (errX (fit I L st inp))) := by
  cases h : fit I L st inp
  · exact Step_no I AL AG AO AB AC AN cL cG cO cB cC cN L G O D C N AS AI cs ci st inp w (fit_no h)
  · exact Step_yes I AL AG AO AB AC AN cL cG cO cB cC cN L G O D C N AS AI cs ci st inp w hA hS hI hM (fit_yes h).1 (fit_yes h).2
def fitS (L : List Pr) (st : List Bool) : Bool := decide (st.length = L.length)
end Go.Proofs.YtekopdfnblfldaaDoor
/- tern.Values and the reference's; what a step tells. -/
namespace Go.Proofs.YtekopdfnblfldaaDoor
open Go.RowKit
/-- Do a state and inputs fit? -/
def fit3 (I : Int) (L : List Pr) (st inp : List Int) : Bool := decide (st.length = L.length) && decide ((inp.length : Int) = I) && (isTri st && isTri inp)
def Nn (l : List Int) : Prop := ∀ x ∈ l, 0 ≤ x
set_option maxHeartbeats 4000000 in
theorem Values3_any (I : Int) (AL AG AO AB AC AN : Option Addr) (cL cG cO cB cC cN : Nat) (L G : List Pr) (O D C : List Int) (N : List Nm) (AS AI : Option Addr) (cs ci : Nat) (st inp : List Int) (w : World) (hT : TB w) (hA : RA w w.heap.size AL AG AO AB AC AN L G O D C N) (hS : RT w w.heap.size AS st) (hI : RT w w.heap.size AI inp) (ns : Nn st) (ni : Nn inp) (ms : st.length ≤ maxLen) (mi : inp.length ≤ maxLen) (hM : Md I L G O D C) :
    Calls Tryd.prog 22 #[.agg #[.int .i64 I, .slice AL L.length cL, .slice AG G.length cG, .slice AO O.length cO, .slice AB D.length cB, .slice AC C.length cC, .slice AN N.length cN], .slice AS st.length cs, .slice AI inp.length ci] w (RetR0 w (orNil (fit3 I L st inp) (valsOf3 st inp G)) (errX (fit3 I L st inp))) := by
  have hb := bal (Below.refl w.heap.size w) (.cells #[.int .i64 I, .slice AL L.length cL, .slice AG G.length cG, .slice AO O.length cO, .slice AB D.length cB, .slice AC C.length cC, .slice AN N.length cN] 35)
  by_cases h1 : ¬ st.length = L.length
  · have d1 : ((st.length : Int) != (L.length : Int)) = true := by simp; omega
    have e : fit3 I L st inp = false := by simp [fit3, h1]
    rw [e]
    clear hA hS hI hM
    go_enter Tryd.func22, Tryd.ntmps22
    go_wp2
    go_ret2
    exact ⟨none, 0, rfl, RT.nil _ _ _, fun _ => rfl, by simp [orNil], by simp [maxLen], hb⟩
  replace h1 := Classical.not_not.1 h1
  have d1 : ((st.length : Int) != (L.length : Int)) = false := by simp [h1]
  by_cases h2 : ¬ (inp.length : Int) = I
  · have d2 : ((inp.length : Int) != I) = true := by simpa using h2
    have e : fit3 I L st inp = false := by simp [fit3, h2]
    rw [e]
    clear hA hS hI hM h1 h2
    go_enter Tryd.func22, Tryd.ntmps22
    go_wp2
    go_ret2
    exact ⟨none, 0, rfl, RT.nil _ _ _, fun _ => rfl, by simp [orNil], by simp [maxLen], hb⟩
  replace h2 := Classical.not_not.1 h2
  have d2 : ((inp.length : Int) != I) = false := by simp [h2]
  have CS := IsTri_any AS cs st _ (hS.nx hb) ms
  have CI := IsTri_any AI ci inp _ (hI.nx hb) mi
  have e : fit3 I L st inp = (isTri st && isTri inp) := by simp [fit3, h1, h2]
  rw [e]
  cases t1 : isTri st
  · rw [t1] at CS
    simp only [Bool.false_and]
    clear hA hS hI hM h1 h2 CI t1 e
    go_enter Tryd.func22, Tryd.ntmps22
    go_wp2_with fail
    refine CS.mono ?_; rintro e w' ⟨rfl, rfl⟩
    clear CS
    go_wp2
    go_ret2
    exact ⟨none, 0, rfl, RT.nil _ _ _, fun _ => rfl, by simp [orNil], by simp [maxLen], hb⟩
  rw [t1] at CS
  cases t2 : isTri inp
  · rw [t2] at CI
    simp only [Bool.and_false]
    clear hA hS hI hM h1 h2 t1 t2 e
    go_enter Tryd.func22, Tryd.ntmps22
    go_wp2_with fail
    refine CS.mono ?_; rintro e w' ⟨rfl, rfl⟩
    clear CS
    go_wp2_with fail
    refine CI.mono ?_; rintro e w' ⟨rfl, rfl⟩
    clear CI
    go_wp2
    go_ret2
    exact ⟨none, 0, rfl, RT.nil _ _ _, fun _ => rfl, by simp [orNil], by simp [maxLen], hb⟩
  rw [t2] at CI
  have m1 := hM.i1
  have m2 := hM.nl
  have ht := hM.tp
  rw [show 1 + I.toNat + L.length = 1 + inp.length + st.length by omega] at ht
  have CV := valuesOf3_any I AL AG AO AB AC AN cL cG cO cB cC cN L G O D C N AS AI cs ci st inp _ (hT.nx hb) (hA.g.nx hb) (hS.nx hb) (hI.nx hb) (isTri_in t2 ni) (isTri_in t1 ns) h2.symm h1.symm (by omega) (by omega) hM.ng ht
  simp only [Bool.and_self, orNil, errX, if_true]
  generalize valsOf3 st inp G = T at *
  clear hA hS hI hM h1 h2 ht t1 t2 e hT
  go_enter Tryd.func22, Tryd.ntmps22
  go_wp2_with fail
  refine CS.mono ?_; rintro e w' ⟨rfl, rfl⟩
  clear CS
  go_wp2_with fail
  refine CI.mono ?_; rintro e w' ⟨rfl, rfl⟩
  clear CI
  go_wp2_with fail
  refine CV.mono ?_; rintro e w' ⟨A', c', rfl, q1, q2, q3, q4, q5⟩
  have hq := bnx hb q5
  have HQ := Lib.hid (And.intro q1 (And.intro q2 (And.intro q3 (And.intro q4 hq))))
  clear CV q1 q2 q3 q4 q5 hq hb
  go_wp2
  go_ret2
  exact ⟨A', c', rfl, HQ.out.1, HQ.out.2.1, HQ.out.2.2.1, HQ.out.2.2.2.1, HQ.out.2.2.2.2⟩
/-- A value that is a row of values. -/
def ST (w : World) (v : Value) (l : List Int) : Prop := ∃ A c, v = .slice A l.length c ∧ RT w w.heap.size A l ∧ (A = none → c = 0) ∧ l.length ≤ c ∧ c ≤ maxLen
theorem ST.nx {w w' : World} {v : Value} {l : List Int} (h : ST w v l) (hb : Below w.heap.size w w') : ST w' v l := by
  obtain ⟨A, c, e, r, z⟩ := h
  exact ⟨A, c, e, r.nx hb, z⟩
theorem ST.nil (w : World) : ST w (.slice none 0 0) [] := ⟨none, 0, rfl, RT.nil _ _ _, fun _ => rfl, by simp, by simp [maxLen]⟩
theorem ST.set {w : World} {v : Value} {l : List Int} (h : ST w v l) {p : Addr} {u : Value} (hp : w.cell? p = some u) (hu : ∀ b, u ≠ .int .u8 b) (x : Value) : ST (w.setCell p x) v l := by
  obtain ⟨A, c, e, r, z⟩ := h
  refine ⟨A, c, e, fun i hi => ?_, z⟩
  obtain ⟨ad, ea, hlt, hc⟩ := r i hi
  refine ⟨ad, ea, by simpa using hlt, ?_⟩
  rw [World.cell?_setCell_other]
  · exact hc
  · intro e'
    rw [e', hc] at hp
    exact hu _ (Option.some.inj hp).symm
/-- What a call tells that makes a step. -/
def RetS3 (w0 : World) (n o d c : List Int) (x : Int) (e : Ending) (w' : World) : Prop := ∃ vn vo vd vc, e = .returned (.tuple #[vn, .agg #[vo, vd, vc], .int .i64 x]) ∧ ST w' vn n ∧ ST w' vo o ∧ ST w' vd d ∧ ST w' vc c ∧ Below w0.heap.size w0 w'
theorem ST.put3 {w : World} {v : Value} {l : List Int} (h : ST w v l) {b : Nat} {A1 A2 A3 : Option Addr} {n1 n2 n3 c1 c2 c3 : Nat} (ht : T3 w b (.slice A1 n1 c1) (.slice A2 n2 c2) (.slice A3 n3 c3)) (x y z : Value) : ST (put3 w b x y z) v l := by
  have h1 := h.set ht.c0 (fun b e => by cases e) x
  have h2 := h1.set (p := ⟨b, 1, none⟩) (u := .slice A2 n2 c2) (by rw [World.cell?_setCell_other _ _ _ _ (by simp)]; exact ht.c1) (fun b e => by cases e) y
  exact h2.set (p := ⟨b, 2, none⟩) (u := .slice A3 n3 c3) (by rw [World.cell?_setCell_other _ _ _ _ (by simp), World.cell?_setCell_other _ _ _ _ (by simp)]; exact ht.c2) (fun b e => by cases e) z
/-- Where what comes out has been laid. -/
def StR3 (w1 : World) (o d c : List Int) (s : Value) (wx : World) : Prop := ∃ g vo vd vc, s = .pointer (some ⟨g, 0, none⟩) ∧ T3 wx g vo vd vc ∧ ST wx vo o ∧ ST wx vd d ∧ ST wx vc c ∧ Below w1.heap.size w1 wx ∧ w1.heap.size ≤ g ∧ g < wx.heap.size
def Z33 : Obj := .cells #[.slice none 0 0, .slice none 0 0, .slice none 0 0] 44
theorem StR3.ahead {w1 u : World} {o d c : List Int} {v1 v2 v3 : Value} {g : Nat} (hU : Below w1.heap.size w1 u) (h1 : ST u v1 o) (h2 : ST u v2 d) (h3 : ST u v3 c) (ht : T3 u g (.slice none 0 0) (.slice none 0 0) (.slice none 0 0)) (hg : w1.heap.size ≤ g) (hl : g < u.heap.size) :
    StR3 w1 o d c (.pointer (some ⟨g, 0, none⟩)) (((u.setCell ⟨g, 0, none⟩ v1).setCell ⟨g, 1, none⟩ v2).setCell ⟨g, 2, none⟩ v3) :=
  ⟨g, v1, v2, v3, rfl, ht.put3 _ _ _, h1.put3 ht _ _ _, h2.put3 ht _ _ _, h3.put3 ht _ _ _, below_put3 hU hg _ _ _, hg, by simpa [put3] using hl⟩
theorem StR3.last {w1 u : World} {o d c : List Int} {v1 v2 v3 : Value} (hU : Below w1.heap.size w1 u) (h1 : ST u v1 o) (h2 : ST u v2 d) (h3 : ST u v3 c) :
    StR3 w1 o d c (.pointer (some ⟨u.heap.size, 0, none⟩)) (u.alloc (.cells #[v1, v2, v3] 44)) :=
  have hb := bal (Below.refl u.heap.size u) (.cells #[v1, v2, v3] 44)
  ⟨u.heap.size, v1, v2, v3, rfl, T3.new u v1 v2 v3 44, h1.nx hb, h2.nx hb, h3.nx hb, hU.alloc hU.size _, hU.size, by simp⟩
end Go.Proofs.YtekopdfnblfldaaDoor
