/-
  tern.Step over the translated program.
-/
import Derived.Test.YtekopdfnblfldaaDoorProg
import Derived.WalkKit
import Derived.WalkSpells
import Derived.WalkLawsBesides
import Derived.Lib.Hide
import Derived.BigQuiet
import Derived.Deep.QuietTactic
import Derived.Deep.RegionWith
import Derived.Deep.RegionHeld3
import Derived.Test.YtekopdfnblfldaaDoorQ08
import Derived.Deep.DeepCutAuto
set_option linter.unusedVariables false
namespace Go.Proofs.YtekopdfnblfldaaDoor
open Go.RowKit
set_option maxRecDepth 100000 in
set_option maxHeartbeats 4000000 in
theorem Step3_no (I : Int) (AL AG AO AB AC AN : Option Addr) (cL cG cO cB cC cN : Nat) (L G : List Pr) (O D C : List Int) (N : List Nm) (AS AI : Option Addr) (cs ci : Nat) (st inp : List Int) (w : World) (hT : TB w) (hA : RA w w.heap.size AL AG AO AB AC AN L G O D C N) (hS : RT w w.heap.size AS st) (hI : RT w w.heap.size AI inp) (ns : Nn st) (ni : Nn inp) (ms : st.length ≤ maxLen) (mi : inp.length ≤ maxLen) (hM : Md I L G O D C) (h : fit3 I L st inp = false) :
    Calls Tryd.prog 24 #[.agg #[.int .i64 I, .slice AL L.length cL, .slice AG G.length cG, .slice AO O.length cO, .slice AB D.length cB, .slice AC C.length cC, .slice AN N.length cN], .slice AS st.length cs, .slice AI inp.length ci] w (RetS3 w [] [] [] [] 7) := by
  have hb := bal (bal (Below.refl w.heap.size w) (.cells #[.int .i64 I, .slice AL L.length cL, .slice AG G.length cG, .slice AO O.length cO, .slice AB D.length cB, .slice AC C.length cC, .slice AN N.length cN] 35)) (.cells #[.slice none 0 0, .slice none 0 0, .slice none 0 0] 44)
  have C1 := Values3_any I AL AG AO AB AC AN cL cG cO cB cC cN L G O D C N AS AI cs ci st inp ((w.alloc (.cells #[.int .i64 I, .slice AL L.length cL, .slice AG G.length cG, .slice AO O.length cO, .slice AB D.length cB, .slice AC C.length cC, .slice AN N.length cN] 35)).alloc (.cells #[.slice none 0 0, .slice none 0 0, .slice none 0 0] 44)) (hT.nx hb) (hA.nx hb) (hS.nx hb) (hI.nx hb) ns ni ms mi hM
  rw [h] at C1
  simp only [orNil, errX, Bool.false_eq_true, if_false] at C1
  have ht : T3 ((w.alloc (.cells #[.int .i64 I, .slice AL L.length cL, .slice AG G.length cG, .slice AO O.length cO, .slice AB D.length cB, .slice AC C.length cC, .slice AN N.length cN] 35)).alloc (.cells #[.slice none 0 0, .slice none 0 0, .slice none 0 0] 44)) (w.heap.size + 1) (.slice none 0 0) (.slice none 0 0) (.slice none 0 0) := by
    have := T3.new (w.alloc (.cells #[.int .i64 I, .slice AL L.length cL, .slice AG G.length cG, .slice AO O.length cO, .slice AB D.length cB, .slice AC C.length cC, .slice AN N.length cN] 35)) (.slice none 0 0) (.slice none 0 0) (.slice none 0 0) 44
    simpa using this
  have hs : ((w.alloc (.cells #[.int .i64 I, .slice AL L.length cL, .slice AG G.length cG, .slice AO O.length cO, .slice AB D.length cB, .slice AC C.length cC, .slice AN N.length cN] 35)).alloc (.cells #[.slice none 0 0, .slice none 0 0, .slice none 0 0] 44)).heap.size = w.heap.size + 2 := by simp
  clear h hA hS hI hM hT
  go_enter Tryd.func24, Tryd.ntmps24
  go_wp2_with fail
  refine C1.mono ?_; rintro e w1 ⟨A1, c1, rfl, _, _, _, _, hb1⟩
  have ht1 := ht.nx hb1 (by omega)
  have hB := hb.trans (hb1.mono (by omega))
  generalize ((w.alloc (.cells #[.int .i64 I, .slice AL L.length cL, .slice AG G.length cG, .slice AO O.length cO, .slice AB D.length cB, .slice AC C.length cC, .slice AN N.length cN] 35)).alloc (.cells #[.slice none 0 0, .slice none 0 0, .slice none 0 0] 44)) = w0 at *
  have hT := T3.put3 ht1 (.slice none 0 0) (.slice none 0 0) (.slice none 0 0)
  obtain ⟨e0, e1, e2, e3, e4, e5⟩ := ht1
  clear C1 ht hb hb1 hs
  go_wp2
  refine bodyPost_ret (v := .tuple #[.slice none 0 0, .agg #[.slice none 0 0, .slice none 0 0, .slice none 0 0], .int .i64 7]) ?r rfl ?_
  case r =>
    simp only [results, Tryd.f24]
    go_simp
  exact ⟨_, _, _, _, rfl, ST.nil _, ST.nil _, ST.nil _, ST.nil _, below_put3 hB (by omega) _ _ _⟩
set_option maxRecDepth 100000 in
set_option maxHeartbeats 8000000 in
theorem Step3_yes (I : Int) (AL AG AO AB AC AN : Option Addr) (cL cG cO cB cC cN : Nat) (L G : List Pr) (O D C : List Int) (N : List Nm) (AS AI : Option Addr) (cs ci : Nat) (st inp : List Int) (w : World) (hT : TB w) (hA : RA w w.heap.size AL AG AO AB AC AN L G O D C N) (hS : RT w w.heap.size AS st) (hI : RT w w.heap.size AI inp) (ns : Nn st) (ni : Nn inp) (ms : st.length ≤ maxLen) (mi : inp.length ≤ maxLen) (hM : Md I L G O D C) (h : fit3 I L st inp = true) (h1 : st.length = L.length) (h2 : (inp.length : Int) = I) :
    Calls Tryd.prog 24 #[.agg #[.int .i64 I, .slice AL L.length cL, .slice AG G.length cG, .slice AO O.length cO, .slice AB D.length cB, .slice AC C.length cC, .slice AN N.length cN], .slice AS st.length cs, .slice AI inp.length ci] w (RetS3 w (nextL3 L G st inp) (tellL3 O G st inp) (tellL3 D G st inp) (tellL3 C G st inp) 0) := by
  have hb := bal (bal (Below.refl w.heap.size w) (.cells #[.int .i64 I, .slice AL L.length cL, .slice AG G.length cG, .slice AO O.length cO, .slice AB D.length cB, .slice AC C.length cC, .slice AN N.length cN] 35)) (.cells #[.slice none 0 0, .slice none 0 0, .slice none 0 0] 44)
  have C1 := Values3_any I AL AG AO AB AC AN cL cG cO cB cC cN L G O D C N AS AI cs ci st inp ((w.alloc (.cells #[.int .i64 I, .slice AL L.length cL, .slice AG G.length cG, .slice AO O.length cO, .slice AB D.length cB, .slice AC C.length cC, .slice AN N.length cN] 35)).alloc (.cells #[.slice none 0 0, .slice none 0 0, .slice none 0 0] 44)) (hT.nx hb) (hA.nx hb) (hS.nx hb) (hI.nx hb) ns ni ms mi hM
  rw [h] at C1
  simp only [orNil, errX, if_true] at C1
  have ht : T3 ((w.alloc (.cells #[.int .i64 I, .slice AL L.length cL, .slice AG G.length cG, .slice AO O.length cO, .slice AB D.length cB, .slice AC C.length cC, .slice AN N.length cN] 35)).alloc (.cells #[.slice none 0 0, .slice none 0 0, .slice none 0 0] 44)) (w.heap.size + 1) (.slice none 0 0) (.slice none 0 0) (.slice none 0 0) := by
    have := T3.new (w.alloc (.cells #[.int .i64 I, .slice AL L.length cL, .slice AG G.length cG, .slice AO O.length cO, .slice AB D.length cB, .slice AC C.length cC, .slice AN N.length cN] 35)) (.slice none 0 0) (.slice none 0 0) (.slice none 0 0) 44
    simpa using this
  have hk : KA ((w.alloc (.cells #[.int .i64 I, .slice AL L.length cL, .slice AG G.length cG, .slice AO O.length cO, .slice AB D.length cB, .slice AC C.length cC, .slice AN N.length cN] 35)).alloc (.cells #[.slice none 0 0, .slice none 0 0, .slice none 0 0] 44)) w.heap.size I AL AG AO AB AC AN cL cG cO cB cC cN L G O D C N := by
    constructor <;> go_simp
  have hs : ((w.alloc (.cells #[.int .i64 I, .slice AL L.length cL, .slice AG G.length cG, .slice AO O.length cO, .slice AB D.length cB, .slice AC C.length cC, .slice AN N.length cN] 35)).alloc (.cells #[.slice none 0 0, .slice none 0 0, .slice none 0 0] 44)).heap.size = w.heap.size + 2 := by simp
  have hvl : (valsOf3 st inp G).length ≤ maxLen := by
    rw [valsOf3_length]; have := hM.i1; have := hM.nl; have := hM.ng; unfold maxLen; omega
  have HM := Lib.hid hM
  have HA := Lib.hid (hA.nx hb)
  unfold nextL3 tellL3
  clear hA hS hI hM h1 h2 h hT
  generalize valsOf3 st inp G = V at *
  obtain ⟨TN, hTN⟩ : ∃ T, L.map (fun p => lt3 V p.1) = T := ⟨_, rfl⟩
  obtain ⟨TO, hTO⟩ : ∃ T, O.map (lt3 V) = T := ⟨_, rfl⟩
  obtain ⟨TD, hTD⟩ : ∃ T, D.map (lt3 V) = T := ⟨_, rfl⟩
  obtain ⟨TC, hTC⟩ : ∃ T, C.map (lt3 V) = T := ⟨_, rfl⟩
  rw [hTN, hTO, hTD, hTC]
  have HTN := Lib.hid hTN
  have HTO := Lib.hid hTO
  have HTD := Lib.hid hTD
  have HTC := Lib.hid hTC
  clear hTN hTO hTD hTC
  go_enter Tryd.func24, Tryd.ntmps24
  go_wp2_with fail
  refine C1.mono ?_; rintro e v1 ⟨AV, cV, rfl, rV, zV, nV, mV, hv1⟩
  generalize ((w.alloc (.cells #[.int .i64 I, .slice AL L.length cL, .slice AG G.length cG, .slice AO O.length cO, .slice AB D.length cB, .slice AC C.length cC, .slice AN N.length cN] 35)).alloc (.cells #[.slice none 0 0, .slice none 0 0, .slice none 0 0] 44)) = w0 at *
  have C42 := tellerOf_any AV V.length cV v1
  have HRV := Lib.hid rV
  have HS := Lib.hid hs
  have HVL := Lib.hid hvl
  have HV1 := Lib.hid hv1
  have HT := Lib.hid ht
  have HK := Lib.hid hk
  have HB := Lib.hid hb
  clear C1 hs hvl rV zV nV mV hv1 ht hk hb
  go_wp2_with fail
  refine C42.mono ?_; rintro e v2 ⟨gv, gl, rfl, htl, hbt⟩
  have hbx := bal (Below.refl v2.heap.size v2) (.cells #[.func (.func 54) #[] #[.pointer (some ⟨gv, 0, none⟩)], .func (.func 55) #[] #[.pointer (some ⟨gl, 0, none⟩)]] 87)
  have HB1 := Lib.hid (bnx (bnx HV1.out hbt) hbx)
  have HRV := Lib.hid ((HRV.out.nx hbt).nx hbx)
  have HTL := Lib.hid (htl.nx hbx)
  have HBOX := Lib.hid (show (v2.alloc (.cells #[.func (.func 54) #[] #[.pointer (some ⟨gv, 0, none⟩)], .func (.func 55) #[] #[.pointer (some ⟨gl, 0, none⟩)]] 87)).cell? ⟨v2.heap.size, 1, none⟩ = some (.func (.func 55) #[] #[.pointer (some ⟨gl, 0, none⟩)]) by go_simp)
  have HBXS := Lib.hid (show v2.heap.size < (v2.alloc (.cells #[.func (.func 54) #[] #[.pointer (some ⟨gv, 0, none⟩)], .func (.func 55) #[] #[.pointer (some ⟨gl, 0, none⟩)]] 87)).heap.size by simp)
  have HBXG := Lib.hid (show w0.heap.size ≤ v2.heap.size from Nat.le_trans HV1.out.size hbt.size)
  clear C42 htl hbt hbx HV1
  go_upto_region 5 with fail
  generalize v2.alloc (.cells #[.func (.func 54) #[] #[.pointer (some ⟨gv, 0, none⟩)], .func (.func 55) #[] #[.pointer (some ⟨gl, 0, none⟩)]] 87) = w1 at *
  obtain ⟨bx, hbx⟩ : ∃ b, v2.heap.size = b := ⟨_, rfl⟩
  rw [hbx] at HBOX HBXS HBXG ⊢
  clear hbx
  have HKA : Hid (∀ wx, Below w1.heap.size w1 wx → KA wx w.heap.size I AL AG AO AB AC AN cL cG cO cB cC cN L G O D C N) := Lib.hid fun wx hx => HK.out.nx (bnx HB1.out hx) (by have := HS.out; omega)
  have HKK : Hid (∀ wx, Below w1.heap.size w1 wx → wx.cell? ⟨w.heap.size, 3, none⟩ = some (.slice AO O.length cO) ∧ wx.cell? ⟨w.heap.size, 4, none⟩ = some (.slice AB D.length cB) ∧ wx.cell? ⟨w.heap.size, 5, none⟩ = some (.slice AC C.length cC) ∧ wx.cell? ⟨bx, 1, none⟩ = some (.func (.func 55) #[] #[.pointer (some ⟨gl, 0, none⟩)])) := Lib.hid fun wx hx => ⟨(HKA.out wx hx).k3, (HKA.out wx hx).k4, (HKA.out wx hx).k5, (hx.cell (p := ⟨bx, 1, none⟩) HBXS.out).trans HBOX.out⟩
  have HPP : Hid (∀ wx, Below w1.heap.size w1 wx → ∀ g x y z, w1.heap.size ≤ g → (((wx.setCell ⟨g, 0, none⟩ x).setCell ⟨g, 1, none⟩ y).setCell ⟨g, 2, none⟩ z).cell? ⟨w.heap.size, 3, none⟩ = some (.slice AO O.length cO) ∧ (((wx.setCell ⟨g, 0, none⟩ x).setCell ⟨g, 1, none⟩ y).setCell ⟨g, 2, none⟩ z).cell? ⟨w.heap.size, 4, none⟩ = some (.slice AB D.length cB) ∧ (((wx.setCell ⟨g, 0, none⟩ x).setCell ⟨g, 1, none⟩ y).setCell ⟨g, 2, none⟩ z).cell? ⟨w.heap.size, 5, none⟩ = some (.slice AC C.length cC) ∧ (((wx.setCell ⟨g, 0, none⟩ x).setCell ⟨g, 1, none⟩ y).setCell ⟨g, 2, none⟩ z).cell? ⟨bx, 1, none⟩ = some (.func (.func 55) #[] #[.pointer (some ⟨gl, 0, none⟩)])) := Lib.hid fun wx hx g x y z hg => by
    obtain ⟨q1, q2, q3, q4⟩ := HKK.out wx hx
    have hne : g ≠ bx := by have := HBXS.out; omega
    refine ⟨?_, ?_, ?_, ?_⟩
    · rw [World.cell?_setCell_other _ _ _ _ (by first | (simp; done) | (intro e; injection e with e1; exact hne e1) | (intro e; injection e with e1; exact hne e1.symm)), World.cell?_setCell_other _ _ _ _ (by first | (simp; done) | (intro e; injection e with e1; exact hne e1) | (intro e; injection e with e1; exact hne e1.symm)), World.cell?_setCell_other _ _ _ _ (by first | (simp; done) | (intro e; injection e with e1; exact hne e1) | (intro e; injection e with e1; exact hne e1.symm))]; exact q1
    · rw [World.cell?_setCell_other _ _ _ _ (by first | (simp; done) | (intro e; injection e with e1; exact hne e1) | (intro e; injection e with e1; exact hne e1.symm)), World.cell?_setCell_other _ _ _ _ (by first | (simp; done) | (intro e; injection e with e1; exact hne e1) | (intro e; injection e with e1; exact hne e1.symm)), World.cell?_setCell_other _ _ _ _ (by first | (simp; done) | (intro e; injection e with e1; exact hne e1) | (intro e; injection e with e1; exact hne e1.symm))]; exact q2
    · rw [World.cell?_setCell_other _ _ _ _ (by first | (simp; done) | (intro e; injection e with e1; exact hne e1) | (intro e; injection e with e1; exact hne e1.symm)), World.cell?_setCell_other _ _ _ _ (by first | (simp; done) | (intro e; injection e with e1; exact hne e1) | (intro e; injection e with e1; exact hne e1.symm)), World.cell?_setCell_other _ _ _ _ (by first | (simp; done) | (intro e; injection e with e1; exact hne e1) | (intro e; injection e with e1; exact hne e1.symm))]; exact q3
    · rw [World.cell?_setCell_other _ _ _ _ (by first | (simp; done) | (intro e; injection e with e1; exact hne e1) | (intro e; injection e with e1; exact hne e1.symm)), World.cell?_setCell_other _ _ _ _ (by first | (simp; done) | (intro e; injection e with e1; exact hne e1) | (intro e; injection e with e1; exact hne e1.symm)), World.cell?_setCell_other _ _ _ _ (by first | (simp; done) | (intro e; injection e with e1; exact hne e1) | (intro e; injection e with e1; exact hne e1.symm))]; exact q4
  have LL : Hid (∀ (A : Option Addr) (c : Nat) (l : List Int) (wx : World), (∀ x ∈ l, -9223372036854775808 ≤ x ∧ x ≤ 9223372036854775807) → l.length ≤ 1000000 → RI wx wx.heap.size A l → Below w1.heap.size w1 wx → Calls Tryd.prog 55 #[.slice A l.length c, .pointer (some ⟨gl, 0, none⟩)] wx (RetR wx (l.map (lt3 V)))) := Lib.hid fun A c l wx hl hn hr hx => row3_any A AV c cV gv gl l V wx hr (HTL.out.nx hx) (HRV.out.nx hx) hn HVL.out hl
  have BL : Hid (∀ l, Lits l → ∀ x ∈ l, -9223372036854775808 ≤ x ∧ x ≤ 9223372036854775807) := Lib.hid fun l hl x hx => by have := hl x hx; omega
  have L1 : Hid (∀ wx, Below w1.heap.size w1 wx → Calls Tryd.prog 55 #[.slice AO O.length cO, .pointer (some ⟨gl, 0, none⟩)] wx (RetR wx TO)) := Lib.hid fun wx hx => by have := LL.out AO cO O wx (BL.out O HM.out.lo) HM.out.no ((HA.out.o.nx HB1.out).nx hx) hx; rwa [HTO.out] at this
  have L2 : Hid (∀ wx, Below w1.heap.size w1 wx → Calls Tryd.prog 55 #[.slice AB D.length cB, .pointer (some ⟨gl, 0, none⟩)] wx (RetR wx TD)) := Lib.hid fun wx hx => by have := LL.out AB cB D wx (BL.out D HM.out.ld) HM.out.nd ((HA.out.d.nx HB1.out).nx hx) hx; rwa [HTD.out] at this
  have L3 : Hid (∀ wx, Below w1.heap.size w1 wx → Calls Tryd.prog 55 #[.slice AC C.length cC, .pointer (some ⟨gl, 0, none⟩)] wx (RetR wx TC)) := Lib.hid fun wx hx => by have := LL.out AC cC C wx (BL.out C HM.out.lc) HM.out.nc ((HA.out.c.nx HB1.out).nx hx) hx; rwa [HTC.out] at this
  have LM : Hid (∀ wx, Below w1.heap.size w1 wx → Calls Tryd.prog 43 #[.slice AL L.length cL] wx (RetI wx (L.map (·.1)))) := Lib.hid fun wx hx => nexts_any AL cL L wx ((HA.out.l.nx HB1.out).nx hx) HM.out.nl
  have LN : Hid (∀ A c wx, RI wx wx.heap.size A (L.map (·.1)) → Below w1.heap.size w1 wx → Calls Tryd.prog 55 #[.slice A (L.map (·.1)).length c, .pointer (some ⟨gl, 0, none⟩)] wx (RetR wx TN)) := Lib.hid fun A c wx hr hx => by
    have := LL.out A c (L.map (·.1)) wx (fun x hx => by obtain ⟨p, hp, rfl⟩ := List.mem_map.1 hx; have := HM.out.ll p hp; omega) (by rw [List.length_map]; exact HM.out.nl) hr hx
    rw [List.map_map] at this
    rw [← HTN.out]
    exact this
  generalize L.map (·.1) = LX at *
  clear LL BL HRV HVL HM HA HTO HTD HTC HTN HTL HBOX
  go_cut [12] (fun s12 wx => StR3 w1 TO TD TC s12 wx)
  case first =>
    have hU := (Below.refl w1.heap.size w1).drew
    have hV := hU.alloc hU.size Z33
    have K0 := HKK.out _ hU
    have K0a := HKK.out _ hV
    have t0 : T3 (w1.drew.alloc Z33) w1.heap.size (.slice none 0 0) (.slice none 0 0) (.slice none 0 0) := T3.new w1.drew _ _ _ 44
    have s0 : w1.heap.size < (w1.drew.alloc Z33).heap.size := by simp
    unfold Z33 at hV K0a t0 s0
    go_region_held3 (fun w' => w'.cell? ⟨w.heap.size, 3, none⟩ = some (.slice AO O.length cO) ∧ w'.cell? ⟨w.heap.size, 4, none⟩ = some (.slice AB D.length cB) ∧ w'.cell? ⟨w.heap.size, 5, none⟩ = some (.slice AC C.length cC) ∧ w'.cell? ⟨bx, 1, none⟩ = some (.func (.func 55) #[] #[.pointer (some ⟨gl, 0, none⟩)]))
      (first | exact K0 | exact K0a | exact K1 | exact K1a | exact K2 | exact K2a | exact K3 | exact K3a | exact K3c | exact K4 _ _ _ _ (by first | exact Nat.le_refl _ | exact U1.size | exact U2.size))
      (first
        | (go_at_call 55; ((with_reducible refine (L1.out _ hU).mono ?_); rintro e u1 ⟨A1, c1, rfl, r1, z1, n1, m1, hu1⟩; have S1 : ST u1 (.slice A1 TO.length c1) TO := ⟨A1, c1, rfl, r1, z1, n1, m1⟩; have U1 := bnx hU hu1; have K1 := HKK.out _ U1; have U1a := U1.alloc U1.size (.cells #[.slice none 0 0, .slice none 0 0, .slice none 0 0] 44); have K1a := HKK.out _ U1a; have tb1 := T3.new u1 (.slice none 0 0) (.slice none 0 0) (.slice none 0 0) 44; have lb1 : u1.heap.size < (u1.alloc (.cells #[.slice none 0 0, .slice none 0 0, .slice none 0 0] 44)).heap.size := by simp))
        | (go_at_call 55; ((with_reducible refine (L2.out _ U1).mono ?_); rintro e u2 ⟨A2, c2, rfl, r2, z2, n2, m2, hu2⟩; have S2 : ST u2 (.slice A2 TD.length c2) TD := ⟨A2, c2, rfl, r2, z2, n2, m2⟩; have S1x := S1.nx hu2; have U2 := bnx U1 hu2; have K2 := HKK.out _ U2; have T2 := T1.nx hu2 l1; have l2 := Nat.lt_of_lt_of_le l1 hu2.size))
        | (go_at_call 55; ((with_reducible refine (L2.out _ U1a).mono ?_); rintro e u2 ⟨A2, c2, rfl, r2, z2, n2, m2, hu2⟩; have S2 : ST u2 (.slice A2 TD.length c2) TD := ⟨A2, c2, rfl, r2, z2, n2, m2⟩; have S1x := (S1.nx (bal (Below.refl _ _) _)).nx hu2; have U2 := bnx U1a hu2; have K2 := HKK.out _ U2; have T2 := tb1.nx hu2 lb1; have l2 := Nat.lt_of_lt_of_le lb1 hu2.size))
        | (go_at_call 55; ((with_reducible refine (L2.out _ U1).mono ?_); rintro e u2 ⟨A2, c2, rfl, r2, z2, n2, m2, hu2⟩; have S2 : ST u2 (.slice A2 TD.length c2) TD := ⟨A2, c2, rfl, r2, z2, n2, m2⟩; have S1x := S1.nx hu2; have U2 := bnx U1 hu2; have K2 := HKK.out _ U2; have U2a := U2.alloc U2.size (.cells #[.slice none 0 0, .slice none 0 0, .slice none 0 0] 44); have K2a := HKK.out _ U2a; have tb2 := T3.new u2 (.slice none 0 0) (.slice none 0 0) (.slice none 0 0) 44; have lb2 : u2.heap.size < (u2.alloc (.cells #[.slice none 0 0, .slice none 0 0, .slice none 0 0] 44)).heap.size := by simp))
        | (go_at_call 55; ((with_reducible refine (L3.out _ U2).mono ?_); rintro e u3 ⟨A3, c3, rfl, r3, z3, n3, m3, hu3⟩; have S3 : ST u3 (.slice A3 TC.length c3) TC := ⟨A3, c3, rfl, r3, z3, n3, m3⟩; have S1y := S1x.nx hu3; have S2y := S2.nx hu3; have U3 := bnx U2 hu3; have K3 := HKK.out _ U3; have T3f := T2.nx hu3 l2; have l3 := Nat.lt_of_lt_of_le l2 hu3.size; have K4 := HPP.out _ U3; obtain ⟨e0, e1, e2, e3, e4, e5⟩ := T3f))
        | (go_at_call 55; ((with_reducible refine (L3.out _ U2a).mono ?_); rintro e u3 ⟨A3, c3, rfl, r3, z3, n3, m3, hu3⟩; have S3 : ST u3 (.slice A3 TC.length c3) TC := ⟨A3, c3, rfl, r3, z3, n3, m3⟩; have S1y := (S1x.nx (bal (Below.refl _ _) _)).nx hu3; have S2y := (S2.nx (bal (Below.refl _ _) _)).nx hu3; have U3 := bnx U2a hu3; have K3 := HKK.out _ U3; have T3f := tb2.nx hu3 lb2; have l3 := Nat.lt_of_lt_of_le lb2 hu3.size; have K4 := HPP.out _ U3; obtain ⟨e0, e1, e2, e3, e4, e5⟩ := T3f))
        | (go_at_call 55; ((with_reducible refine (L3.out _ U2).mono ?_); rintro e u3 ⟨A3, c3, rfl, r3, z3, n3, m3, hu3⟩; have S3 : ST u3 (.slice A3 TC.length c3) TC := ⟨A3, c3, rfl, r3, z3, n3, m3⟩; have S1y := S1x.nx hu3; have S2y := S2.nx hu3; have U3 := bnx U2 hu3; have K3 := HKK.out _ U3; have U3a := U3.alloc U3.size (.cells #[.slice none 0 0, .slice none 0 0, .slice none 0 0] 44); have K3a := HKK.out _ U3a; have K3c := HKK.out _ (U3.alloc U3.size (.cells #[.slice A1 TO.length c1, .slice A2 TD.length c2, .slice A3 TC.length c3] 44))))
        | (go_at_call 55; ((refine (L1.out _ hV).mono ?_); rintro e u1 ⟨A1, c1, rfl, r1, z1, n1, m1, hu1⟩; have S1 : ST u1 (.slice A1 TO.length c1) TO := ⟨A1, c1, rfl, r1, z1, n1, m1⟩; have U1 := bnx hV hu1; have K1 := HKK.out _ U1; have T1 := t0.nx hu1 s0; have l1 : w1.heap.size < u1.heap.size := Nat.lt_of_lt_of_le s0 hu1.size)))
    all_goals (go_wp2_with fail; go_meet; first | exact StR3.last U3 S1y S2y S3 | exact StR3.ahead U3 S1y S2y S3 ⟨e0, e1, e2, e3, e4, e5⟩ (by first | exact Nat.le_refl _ | exact U1.size | exact U2.size) l3)
  case rest =>
    obtain ⟨g, vo, vd, vc, rfl, tg, so, sd, sc, hbl, hg1, hg2⟩ := hcut
    obtain ⟨Ao, co, rfl, zo⟩ := so
    obtain ⟨Ad, cd, rfl, zd⟩ := sd
    obtain ⟨Ac, cc, rfl, zc⟩ := sc
    have so : ST wc (.slice Ao TO.length co) TO := ⟨Ao, co, rfl, zo⟩
    have sd : ST wc (.slice Ad TD.length cd) TD := ⟨Ad, cd, rfl, zd⟩
    have sc : ST wc (.slice Ac TC.length cc) TC := ⟨Ac, cc, rfl, zc⟩
    have hgne : ¬ (w.heap.size + 1 = g) := by have := HS.out; have := HB1.out.size; omega
    have hbne : ¬ (w.heap.size + 1 = bx) := by have := HS.out; have := HBXG.out; omega
    have HBL := Lib.hid hbl
    have HKG : Hid (∀ wx, Below wc.heap.size wc wx → wx.cell? ⟨w.heap.size, 1, none⟩ = some (.slice AL L.length cL) ∧ wx.cell? ⟨bx, 1, none⟩ = some (.func (.func 55) #[] #[.pointer (some ⟨gl, 0, none⟩)]) ∧ wx.cell? ⟨g, 0, none⟩ = some (.slice Ao TO.length co) ∧ wx.cell? ⟨g, 1, none⟩ = some (.slice Ad TD.length cd) ∧ wx.cell? ⟨g, 2, none⟩ = some (.slice Ac TC.length cc)) := Lib.hid fun wx hx => by
      have q := HKA.out wx (bnx HBL.out hx)
      have r := tg.nx hx hg2
      exact ⟨q.k1, (HKK.out wx (bnx HBL.out hx)).2.2.2, r.c0, r.c1, r.c2⟩
    have HPG : Hid (∀ wx, Below wc.heap.size wc wx → ∀ x y z, (((wx.setCell ⟨w.heap.size + 1, 0, none⟩ x).setCell ⟨w.heap.size + 1, 1, none⟩ y).setCell ⟨w.heap.size + 1, 2, none⟩ z).cell? ⟨w.heap.size, 1, none⟩ = some (.slice AL L.length cL) ∧ (((wx.setCell ⟨w.heap.size + 1, 0, none⟩ x).setCell ⟨w.heap.size + 1, 1, none⟩ y).setCell ⟨w.heap.size + 1, 2, none⟩ z).cell? ⟨bx, 1, none⟩ = some (.func (.func 55) #[] #[.pointer (some ⟨gl, 0, none⟩)]) ∧ (((wx.setCell ⟨w.heap.size + 1, 0, none⟩ x).setCell ⟨w.heap.size + 1, 1, none⟩ y).setCell ⟨w.heap.size + 1, 2, none⟩ z).cell? ⟨g, 0, none⟩ = some (.slice Ao TO.length co) ∧ (((wx.setCell ⟨w.heap.size + 1, 0, none⟩ x).setCell ⟨w.heap.size + 1, 1, none⟩ y).setCell ⟨w.heap.size + 1, 2, none⟩ z).cell? ⟨g, 1, none⟩ = some (.slice Ad TD.length cd) ∧ (((wx.setCell ⟨w.heap.size + 1, 0, none⟩ x).setCell ⟨w.heap.size + 1, 1, none⟩ y).setCell ⟨w.heap.size + 1, 2, none⟩ z).cell? ⟨g, 2, none⟩ = some (.slice Ac TC.length cc)) := Lib.hid fun wx hx x y z => by
      obtain ⟨q0, q1, q2, q3, q4⟩ := HKG.out wx hx
      refine ⟨?_, ?_, ?_, ?_, ?_⟩
      · rw [World.cell?_setCell_other _ _ _ _ (by first | (simp; done) | (intro e; injection e with e1; exact hgne e1) | (intro e; injection e with e1; exact hgne e1.symm)), World.cell?_setCell_other _ _ _ _ (by first | (simp; done) | (intro e; injection e with e1; exact hgne e1) | (intro e; injection e with e1; exact hgne e1.symm)), World.cell?_setCell_other _ _ _ _ (by first | (simp; done) | (intro e; injection e with e1; exact hgne e1) | (intro e; injection e with e1; exact hgne e1.symm))]; exact q0
      · rw [World.cell?_setCell_other _ _ _ _ (by first | (simp; done) | (intro e; injection e with e1; exact hbne e1) | (intro e; injection e with e1; exact hbne e1.symm)), World.cell?_setCell_other _ _ _ _ (by first | (simp; done) | (intro e; injection e with e1; exact hbne e1) | (intro e; injection e with e1; exact hbne e1.symm)), World.cell?_setCell_other _ _ _ _ (by first | (simp; done) | (intro e; injection e with e1; exact hbne e1) | (intro e; injection e with e1; exact hbne e1.symm))]; exact q1
      · rw [World.cell?_setCell_other _ _ _ _ (by first | (simp; done) | (intro e; injection e with e1; exact hgne e1) | (intro e; injection e with e1; exact hgne e1.symm)), World.cell?_setCell_other _ _ _ _ (by first | (simp; done) | (intro e; injection e with e1; exact hgne e1) | (intro e; injection e with e1; exact hgne e1.symm)), World.cell?_setCell_other _ _ _ _ (by first | (simp; done) | (intro e; injection e with e1; exact hgne e1) | (intro e; injection e with e1; exact hgne e1.symm))]; exact q2
      · rw [World.cell?_setCell_other _ _ _ _ (by first | (simp; done) | (intro e; injection e with e1; exact hgne e1) | (intro e; injection e with e1; exact hgne e1.symm)), World.cell?_setCell_other _ _ _ _ (by first | (simp; done) | (intro e; injection e with e1; exact hgne e1) | (intro e; injection e with e1; exact hgne e1.symm)), World.cell?_setCell_other _ _ _ _ (by first | (simp; done) | (intro e; injection e with e1; exact hgne e1) | (intro e; injection e with e1; exact hgne e1.symm))]; exact q3
      · rw [World.cell?_setCell_other _ _ _ _ (by first | (simp; done) | (intro e; injection e with e1; exact hgne e1) | (intro e; injection e with e1; exact hgne e1.symm)), World.cell?_setCell_other _ _ _ _ (by first | (simp; done) | (intro e; injection e with e1; exact hgne e1) | (intro e; injection e with e1; exact hgne e1.symm)), World.cell?_setCell_other _ _ _ _ (by first | (simp; done) | (intro e; injection e with e1; exact hgne e1) | (intro e; injection e with e1; exact hgne e1.symm))]; exact q4
    have HT7 : Hid (∀ wx, Below wc.heap.size wc wx → T3 wx (w.heap.size + 1) (.slice none 0 0) (.slice none 0 0) (.slice none 0 0)) := Lib.hid fun wx hx => HT.out.nx (bnx HB1.out (bnx HBL.out hx)) (by have := HS.out; omega)
    have hU := (Below.refl wc.heap.size wc).drew
    have K0 := HKG.out _ hU
    have HSO := Lib.hid (And.intro so (And.intro sd sc))
    have LM1 : Hid (∀ wx, Below wc.heap.size wc wx → Calls Tryd.prog 43 #[.slice AL L.length cL] wx (RetI wx LX)) := Lib.hid fun wx hx => LM.out wx (bnx HBL.out hx)
    have LN1 : Hid (∀ A c wx, RI wx wx.heap.size A LX → Below wc.heap.size wc wx → Calls Tryd.prog 55 #[.slice A LX.length c, .pointer (some ⟨gl, 0, none⟩)] wx (RetR wx TN)) := Lib.hid fun A c wx hr hx => LN.out A c wx hr (bnx HBL.out hx)
    clear tg so sd sc zo zd zc hbl HKA HKK HPP L1 L2 L3 LN LM
    go_wp2_with fail
    go_region_held3 (fun w' => w'.cell? ⟨w.heap.size, 1, none⟩ = some (.slice AL L.length cL) ∧ w'.cell? ⟨bx, 1, none⟩ = some (.func (.func 55) #[] #[.pointer (some ⟨gl, 0, none⟩)]) ∧ w'.cell? ⟨g, 0, none⟩ = some (.slice Ao TO.length co) ∧ w'.cell? ⟨g, 1, none⟩ = some (.slice Ad TD.length cd) ∧ w'.cell? ⟨g, 2, none⟩ = some (.slice Ac TC.length cc))
      (first | exact K0 | exact K1 | exact K2 | exact K4 _ _ _)
      (first
        | (go_at_call 43; ((with_reducible refine (LM1.out _ hU).mono ?_); rintro e u1 ⟨Ax, cx, rfl, rx, _, _, _, hu1⟩; have U1 := bnx hU hu1; have K1 := HKG.out _ U1))
        | (go_at_call 55; ((with_reducible refine (LN1.out Ax cx _ rx U1).mono ?_); rintro e u2 ⟨A1, c1, rfl, r1, z1, n1, m1, hu2⟩; have U2 := bnx U1 hu2; have K2 := HKG.out _ U2; have K4 := HPG.out _ U2; obtain ⟨e0, e1, e2, e3, e4, e5⟩ := HT7.out _ U2)))
    have TT := HT7.out _ U2
    have F1 := ST.put3 (⟨A1, c1, rfl, r1, z1, n1, m1⟩ : ST u2 (.slice A1 TN.length c1) TN) TT (.slice Ao TO.length co) (.slice Ad TD.length cd) (.slice Ac TC.length cc)
    have F2 := (HSO.out.1.nx U2).put3 TT (.slice Ao TO.length co) (.slice Ad TD.length cd) (.slice Ac TC.length cc)
    have F3 := (HSO.out.2.1.nx U2).put3 TT (.slice Ao TO.length co) (.slice Ad TD.length cd) (.slice Ac TC.length cc)
    have F4 := (HSO.out.2.2.nx U2).put3 TT (.slice Ao TO.length co) (.slice Ad TD.length cd) (.slice Ac TC.length cc)
    have F5 := below_put3 (HB.out.trans ((bnx HB1.out (bnx HBL.out U2)).mono HB.out.size)) (b := w.heap.size + 1) (by omega) (.slice Ao TO.length co) (.slice Ad TD.length cd) (.slice Ac TC.length cc)
    have F6 := TT.put3 (.slice Ao TO.length co) (.slice Ad TD.length cd) (.slice Ac TC.length cc)
    unfold put3 at F1 F2 F3 F4 F5 F6
    generalize ((u2.setCell ⟨w.heap.size + 1, 0, none⟩ (.slice Ao TO.length co)).setCell ⟨w.heap.size + 1, 1, none⟩ (.slice Ad TD.length cd)).setCell ⟨w.heap.size + 1, 2, none⟩ (.slice Ac TC.length cc) = P at *
    have HF := Lib.hid (And.intro F1 (And.intro F2 (And.intro F3 (And.intro F4 F5))))
    clear F1 F2 F3 F4 F5 TT K0 K1 K2 K4 U1 U2 hu1 hu2 rx r1 z1 n1 m1 e0 e1 e2 e3 e4 e5 hU HKG HPG HT7 LN1 LM1
    obtain ⟨e0, e1, e2, e3, e4, e5⟩ := F6
    go_wp2
    refine bodyPost_ret (v := .tuple #[.slice A1 TN.length c1, .agg #[(.slice Ao TO.length co), (.slice Ad TD.length cd), (.slice Ac TC.length cc)], .int .i64 0]) ?r rfl ?_
    case r =>
      simp only [results, Tryd.f24]
      go_simp
    exact ⟨_, _, _, _, rfl, HF.out.1, HF.out.2.1, HF.out.2.2.1, HF.out.2.2.2.1, HF.out.2.2.2.2⟩
theorem fit3_yes {I : Int} {L : List Pr} {st inp : List Int} (h : fit3 I L st inp = true) : st.length = L.length ∧ (inp.length : Int) = I ∧ isTri st = true ∧ isTri inp = true := by
  simp [fit3] at h
  exact ⟨h.1.1, h.1.2, h.2.1, h.2.2⟩
theorem Step3_any (I : Int) (AL AG AO AB AC AN : Option Addr) (cL cG cO cB cC cN : Nat) (L G : List Pr) (O D C : List Int) (N : List Nm) (AS AI : Option Addr) (cs ci : Nat) (st inp : List Int) (w : World) (hT : TB w) (hA : RA w w.heap.size AL AG AO AB AC AN L G O D C N) (hS : RT w w.heap.size AS st) (hI : RT w w.heap.size AI inp) (ns : Nn st) (ni : Nn inp) (ms : st.length ≤ maxLen) (mi : inp.length ≤ maxLen) (hM : Md I L G O D C) :
    Calls Tryd.prog 24 #[.agg #[.int .i64 I, .slice AL L.length cL, .slice AG G.length cG, .slice AO O.length cO, .slice AB D.length cB, .slice AC C.length cC, .slice AN N.length cN], .slice AS st.length cs, .slice AI inp.length ci] w (RetS3 w (orNil (fit3 I L st inp) (nextL3 L G st inp)) (orNil (fit3 I L st inp) (tellL3 O G st inp)) (orNil (fit3 I L st inp) (tellL3 D G st inp)) (orNil (fit3 I L st inp) (tellL3 C G st inp)) (errX (fit3 I L st inp))) := by
  cases h : fit3 I L st inp
  · exact Step3_no I AL AG AO AB AC AN cL cG cO cB cC cN L G O D C N AS AI cs ci st inp w hT hA hS hI ns ni ms mi hM h
  · exact Step3_yes I AL AG AO AB AC AN cL cG cO cB cC cN L G O D C N AS AI cs ci st inp w hT hA hS hI ns ni ms mi hM h (fit3_yes h).1 (fit3_yes h).2.1
end Go.Proofs.YtekopdfnblfldaaDoor
