/-
  A step, of the reference.
  The iterator of a run's states, and a range over it.
-/
import Derived.Test.YtkdocjcpehmljaaProg
import Derived.WalkKit
import Derived.WalkSpells
import Derived.WalkLawsBesides
import Derived.Lib.Hide
import Derived.BigQuiet
import Derived.Deep.QuietTactic
import Derived.Deep.RegionWith
import Derived.Deep.RegionHeld3
import Derived.Test.YtkdocjcpehmljaaQ04
import Derived.Test.YtkdocjcpehmljaaQ03
import Derived.Test.YtkdocjcpehmljaaQ06
import Derived.Test.YtkdocjcpehmljaaQ02
import Derived.RangeFuncCalls
import Derived.RangeFuncBox
import Derived.RangeFuncNested
import Derived.RangeFuncLeaves
import Derived.Shelf.Abstract
import Derived.OwnWalkIn
import Derived.TacticsInMore
import Derived.LoopNIn
import Derived.LoopIn
import Derived.Deep.LoopGhost
import Derived.WalkMore
import Derived.Deep.DeepCutAuto
set_option linter.unusedVariables false
/- A step, of the reference. -/
namespace Go.Proofs.Ytkdocjcpehmljaa
open Go.RowKit
/-- A value that is a row of flags. -/
def SB (w : World) (v : Value) (l : List Bool) : Prop := ∃ A c, v = .slice A l.length c ∧ RB w w.heap.size A l ∧ (A = none → c = 0) ∧ l.length ≤ c ∧ c ≤ maxLen
theorem SB.nx {w w' : World} {v : Value} {l : List Bool} (h : SB w v l) (hb : Below w.heap.size w w') : SB w' v l := by
  obtain ⟨A, c, e, r, z⟩ := h
  exact ⟨A, c, e, r.nx hb, z⟩
theorem SB.nil (w : World) : SB w (.slice none 0 0) [] := ⟨none, 0, rfl, RB.nil _ _ _, fun _ => rfl, by simp, by simp [maxLen]⟩
theorem SB.set {w : World} {v : Value} {l : List Bool} (h : SB w v l) {p : Addr} {u : Value} (hp : w.cell? p = some u) (hu : ∀ b, u ≠ .bool b) (x : Value) : SB (w.setCell p x) v l := by
  obtain ⟨A, c, e, r, z⟩ := h
  refine ⟨A, c, e, fun i hi => ?_, z⟩
  obtain ⟨ad, ea, hlt, hc⟩ := r i hi
  refine ⟨ad, ea, by simpa using hlt, ?_⟩
  rw [World.cell?_setCell_other]
  · exact hc
  · intro e'
    rw [e', hc] at hp
    exact hu _ (Option.some.inj hp).symm
/-- What a call tells that makes a step. -/
def RetT (w0 : World) (n o d c : List Bool) (x : Int) (e : Ending) (w' : World) : Prop := ∃ vn vo vd vc, e = .returned (.tuple #[vn, .agg #[vo, vd, vc], .int .i64 x]) ∧ SB w' vn n ∧ SB w' vo o ∧ SB w' vd d ∧ SB w' vc c ∧ Below w0.heap.size w0 w'
/-- The three cells of an array of rows. -/
structure T3 (w : World) (b : Nat) (x y z : Value) : Prop where
  c0 : w.cell? ⟨b, 0, none⟩ = some x
  c1 : w.cell? ⟨b, 1, none⟩ = some y
  c2 : w.cell? ⟨b, 2, none⟩ = some z
  f0 : w.frozen? ⟨b, 0, none⟩ = false
  f1 : w.frozen? ⟨b, 1, none⟩ = false
  f2 : w.frozen? ⟨b, 2, none⟩ = false
theorem T3.nx {w w' : World} {b : Nat} {x y z : Value} (h : T3 w b x y z) {B : Nat} (hb : Below B w w') (hlt : b < B) : T3 w' b x y z :=
  ⟨(hb.cell (p := ⟨b, 0, none⟩) hlt).trans h.c0, (hb.cell (p := ⟨b, 1, none⟩) hlt).trans h.c1, (hb.cell (p := ⟨b, 2, none⟩) hlt).trans h.c2, (hb.frozen (p := ⟨b, 0, none⟩) hlt).trans h.f0, (hb.frozen (p := ⟨b, 1, none⟩) hlt).trans h.f1, (hb.frozen (p := ⟨b, 2, none⟩) hlt).trans h.f2⟩
theorem T3.new (w : World) (x y z : Value) (t : TypeId) : T3 (w.alloc (.cells #[x, y, z] t)) w.heap.size x y z := by
  constructor <;> go_simp
/-- Three stores into an array of rows. -/
def put3 (w : World) (b : Nat) (x y z : Value) : World := ((w.setCell ⟨b, 0, none⟩ x).setCell ⟨b, 1, none⟩ y).setCell ⟨b, 2, none⟩ z
theorem SB.put3 {w : World} {v : Value} {l : List Bool} (h : SB w v l) {b : Nat} {A1 A2 A3 : Option Addr} {n1 n2 n3 c1 c2 c3 : Nat} (ht : T3 w b (.slice A1 n1 c1) (.slice A2 n2 c2) (.slice A3 n3 c3)) (x y z : Value) : SB (put3 w b x y z) v l := by
  have h1 := h.set ht.c0 (fun b e => by cases e) x
  have h2 := h1.set (p := ⟨b, 1, none⟩) (u := .slice A2 n2 c2) (by rw [World.cell?_setCell_other _ _ _ _ (by simp)]; exact ht.c1) (fun b e => by cases e) y
  exact h2.set (p := ⟨b, 2, none⟩) (u := .slice A3 n3 c3) (by rw [World.cell?_setCell_other _ _ _ _ (by simp), World.cell?_setCell_other _ _ _ _ (by simp)]; exact ht.c2) (fun b e => by cases e) z
theorem T3.put3 {w : World} {b : Nat} {u1 u2 u3 : Value} (ht : T3 w b u1 u2 u3) (x y z : Value) : T3 (put3 w b x y z) b x y z := by
  have e0 := ht.c0; have e1 := ht.c1; have e2 := ht.c2; have e3 := ht.f0; have e4 := ht.f1; have e5 := ht.f2
  unfold Ytkdocjcpehmljaa.put3
  constructor <;> go_simp
theorem below_put3 {B b : Nat} {w0 w : World} (h : Below B w0 w) (hb : B ≤ b) (x y z : Value) : Below B w0 (put3 w b x y z) := ((h.setCell hb _).setCell hb _).setCell hb _
/-- The next state. -/
def nextL (L G : List Pr) (st inp : List Bool) : List Bool := L.map (fun p => lt (valsOf st inp G) p.1)
def tellL (l : List Int) (G : List Pr) (st inp : List Bool) : List Bool := l.map (lt (valsOf st inp G))
theorem takeN (L : List Pr) (v : List Bool) (j : Nat) (h : j < L.length) : (L.take (j + 1)).map (fun p => lt v p.1) = (L.take j).map (fun p => lt v p.1) ++ [lt v (L.getD j (0, 0)).1] := by
  rw [takeP L j h, List.map_append]; rfl
set_option maxRecDepth 100000 in
set_option maxHeartbeats 4000000 in
theorem refStep_no (I : Int) (AL AG AO AB AC AN : Option Addr) (cL cG cO cB cC cN : Nat) (L G : List Pr) (O D C : List Int) (N : List Nm) (AS AI : Option Addr) (cs ci : Nat) (st inp : List Bool) (w : World) (h : ¬ (st.length = L.length ∧ (inp.length : Int) = I)) :
    Calls Try.prog 16 #[.agg #[.int .i64 I, .slice AL L.length cL, .slice AG G.length cG, .slice AO O.length cO, .slice AB D.length cB, .slice AC C.length cC, .slice AN N.length cN], .slice AS st.length cs, .slice AI inp.length ci] w (RetT w [] [] [] [] 7) := by
  have C1 := refValues_no I AL AG AO AB AC AN cL cG cO cB cC cN L G O D C N AS AI cs ci st inp ((w.alloc (.cells #[.int .i64 I, .slice AL L.length cL, .slice AG G.length cG, .slice AO O.length cO, .slice AB D.length cB, .slice AC C.length cC, .slice AN N.length cN] 27)).alloc (.cells #[.slice none 0 0, .slice none 0 0, .slice none 0 0] 40)) h
  have hb := bal (bal (Below.refl w.heap.size w) (.cells #[.int .i64 I, .slice AL L.length cL, .slice AG G.length cG, .slice AO O.length cO, .slice AB D.length cB, .slice AC C.length cC, .slice AN N.length cN] 27)) (.cells #[.slice none 0 0, .slice none 0 0, .slice none 0 0] 40)
  have ht : T3 ((w.alloc (.cells #[.int .i64 I, .slice AL L.length cL, .slice AG G.length cG, .slice AO O.length cO, .slice AB D.length cB, .slice AC C.length cC, .slice AN N.length cN] 27)).alloc (.cells #[.slice none 0 0, .slice none 0 0, .slice none 0 0] 40)) (w.heap.size + 1) (.slice none 0 0) (.slice none 0 0) (.slice none 0 0) := by
    have := T3.new (w.alloc (.cells #[.int .i64 I, .slice AL L.length cL, .slice AG G.length cG, .slice AO O.length cO, .slice AB D.length cB, .slice AC C.length cC, .slice AN N.length cN] 27)) (.slice none 0 0) (.slice none 0 0) (.slice none 0 0) 40
    simpa using this
  have hs : ((w.alloc (.cells #[.int .i64 I, .slice AL L.length cL, .slice AG G.length cG, .slice AO O.length cO, .slice AB D.length cB, .slice AC C.length cC, .slice AN N.length cN] 27)).alloc (.cells #[.slice none 0 0, .slice none 0 0, .slice none 0 0] 40)).heap.size = w.heap.size + 2 := by simp
  clear h
  go_enter Try.func16, Try.ntmps16
  go_wp2_with fail
  refine C1.mono ?_; rintro e w1 ⟨A1, c1, rfl, _, _, _, _, hb1⟩
  have ht1 := ht.nx hb1 (by omega)
  have hB := hb.trans (hb1.mono (by omega))
  generalize (w.alloc (.cells #[.int .i64 I, .slice AL L.length cL, .slice AG G.length cG, .slice AO O.length cO, .slice AB D.length cB, .slice AC C.length cC, .slice AN N.length cN] 27)).alloc (.cells #[.slice none 0 0, .slice none 0 0, .slice none 0 0] 40) = w0 at *
  have hT := T3.put3 ht1 (.slice none 0 0) (.slice none 0 0) (.slice none 0 0)
  obtain ⟨e0, e1, e2, e3, e4, e5⟩ := ht1
  clear C1 ht hb hb1 hs
  go_wp2
  refine bodyPost_ret (v := .tuple #[.slice none 0 0, .agg #[.slice none 0 0, .slice none 0 0, .slice none 0 0], .int .i64 7]) ?r rfl ?_
  case r =>
    simp only [results, Try.f16]
    go_simp
  exact ⟨_, _, _, _, rfl, SB.nil _, SB.nil _, SB.nil _, SB.nil _, below_put3 hB (by omega) _ _ _⟩
set_option maxRecDepth 100000 in
set_option maxHeartbeats 8000000 in
theorem refStep_yes (I : Int) (AL AG AO AB AC AN : Option Addr) (cL cG cO cB cC cN : Nat) (L G : List Pr) (O D C : List Int) (N : List Nm) (AS AI : Option Addr) (cs ci : Nat) (st inp : List Bool) (w : World) (hA : RA w w.heap.size AL AG AO AB AC AN L G O D C N) (hS : RB w w.heap.size AS st) (hI : RB w w.heap.size AI inp) (zS : AS = none → cs = 0) (zI : AI = none → ci = 0) (hM : Md I L G O D C) (h1 : st.length = L.length) (h2 : (inp.length : Int) = I) :
    Calls Try.prog 16 #[.agg #[.int .i64 I, .slice AL L.length cL, .slice AG G.length cG, .slice AO O.length cO, .slice AB D.length cB, .slice AC C.length cC, .slice AN N.length cN], .slice AS st.length cs, .slice AI inp.length ci] w (RetT w (nextL L G st inp) (tellL O G st inp) (tellL D G st inp) (tellL C G st inp) 0) := by
  have hb := bal (bal (Below.refl w.heap.size w) (.cells #[.int .i64 I, .slice AL L.length cL, .slice AG G.length cG, .slice AO O.length cO, .slice AB D.length cB, .slice AC C.length cC, .slice AN N.length cN] 27)) (.cells #[.slice none 0 0, .slice none 0 0, .slice none 0 0] 40)
  have C1 := refValues_yes I AL AG AO AB AC AN cL cG cO cB cC cN L G O D C N AS AI cs ci st inp ((w.alloc (.cells #[.int .i64 I, .slice AL L.length cL, .slice AG G.length cG, .slice AO O.length cO, .slice AB D.length cB, .slice AC C.length cC, .slice AN N.length cN] 27)).alloc (.cells #[.slice none 0 0, .slice none 0 0, .slice none 0 0] 40)) (hA.nx hb) (hS.nx hb) (hI.nx hb) zS zI hM h1 h2
  have ht : T3 ((w.alloc (.cells #[.int .i64 I, .slice AL L.length cL, .slice AG G.length cG, .slice AO O.length cO, .slice AB D.length cB, .slice AC C.length cC, .slice AN N.length cN] 27)).alloc (.cells #[.slice none 0 0, .slice none 0 0, .slice none 0 0] 40)) (w.heap.size + 1) (.slice none 0 0) (.slice none 0 0) (.slice none 0 0) := by
    have := T3.new (w.alloc (.cells #[.int .i64 I, .slice AL L.length cL, .slice AG G.length cG, .slice AO O.length cO, .slice AB D.length cB, .slice AC C.length cC, .slice AN N.length cN] 27)) (.slice none 0 0) (.slice none 0 0) (.slice none 0 0) 40
    simpa using this
  have hk : KA ((w.alloc (.cells #[.int .i64 I, .slice AL L.length cL, .slice AG G.length cG, .slice AO O.length cO, .slice AB D.length cB, .slice AC C.length cC, .slice AN N.length cN] 27)).alloc (.cells #[.slice none 0 0, .slice none 0 0, .slice none 0 0] 40)) w.heap.size I AL AG AO AB AC AN cL cG cO cB cC cN L G O D C N := by
    constructor <;> go_simp
  have hs : ((w.alloc (.cells #[.int .i64 I, .slice AL L.length cL, .slice AG G.length cG, .slice AO O.length cO, .slice AB D.length cB, .slice AC C.length cC, .slice AN N.length cN] 27)).alloc (.cells #[.slice none 0 0, .slice none 0 0, .slice none 0 0] 40)).heap.size = w.heap.size + 2 := by simp
  have hvl : (valsOf st inp G).length ≤ maxLen := by
    rw [valsOf_length]; have := hM.i1; have := hM.nl; have := hM.ng; unfold maxLen; omega
  have nl := hM.nl
  have HM := Lib.hid hM
  have HA := Lib.hid (hA.nx hb)
  unfold nextL tellL
  clear hA hS hI hM h1 h2
  generalize valsOf st inp G = V at *
  obtain ⟨TN, hTN⟩ : ∃ T, L.map (fun p => lt V p.1) = T := ⟨_, rfl⟩
  obtain ⟨TO, hTO⟩ : ∃ T, O.map (lt V) = T := ⟨_, rfl⟩
  obtain ⟨TD, hTD⟩ : ∃ T, D.map (lt V) = T := ⟨_, rfl⟩
  obtain ⟨TC, hTC⟩ : ∃ T, C.map (lt V) = T := ⟨_, rfl⟩
  rw [hTN, hTO, hTD, hTC]
  have HTN := Lib.hid hTN
  have HTO := Lib.hid hTO
  have HTD := Lib.hid hTD
  have HTC := Lib.hid hTC
  clear hTN hTO hTD hTC
  go_enter Try.func16, Try.ntmps16
  go_wp2_with fail
  refine C1.mono ?_; rintro e w1 ⟨AV, cV, rfl, rV, zV, nV, mV, hb1⟩
  generalize (w.alloc (.cells #[.int .i64 I, .slice AL L.length cL, .slice AG G.length cG, .slice AO O.length cO, .slice AB D.length cB, .slice AC C.length cC, .slice AN N.length cN] 27)).alloc (.cells #[.slice none 0 0, .slice none 0 0, .slice none 0 0] 40) = w0 at *
  have HS := Lib.hid hs
  have HVL := Lib.hid hvl
  have HRV := Lib.hid rV
  have HB1 := Lib.hid hb1
  have HT := Lib.hid ht
  have HK := Lib.hid hk
  have HB := Lib.hid hb
  clear C1 hs hvl rV zV nV mV hb1 ht hk hb
  go_wp2
  go_loopg [11, 12] L.length (fun g s11 s12 wr => ∃ j : Nat, j + g = L.length ∧ s12 = .int .i64 j ∧ OwnB wr w1.heap.size s11 ((L.take j).map (fun p => lt V p.1)) ∧ Below w1.heap.size w1 wr)
  case atStart => exact ⟨0, by omega, rfl, OwnB.nil _ _, Below.refl _ _⟩
  case round =>
    obtain ⟨j, hj, rfl, hrow, hbel⟩ := hrel
    have hb2 := bnx HB1.out hbel
    obtain ⟨k0, k1, k2, k3, k4, k5, k6⟩ := HK.out.nx hb2 (by have := HS.out; omega)
    cases gk with
    | zero =>
      have q1 : ¬ ((j : Int) < L.length) := by omega
      have q2 : ¬ (j < L.length) := by omega
      rw [show L.take j = L from List.take_of_length_le (by omega), HTN.out] at hrow
      obtain ⟨An, cn, rfl, r1, r2, r3, r4⟩ := hrow.val
      have HSN := Lib.hid (show SB wr (.slice An TN.length cn) TN from ⟨An, cn, rfl, r1, r2, r3, r4⟩)
      have hU := (Below.refl wr.heap.size wr).drew
      have HB2 := Lib.hid hb2
      have HRV2 := Lib.hid (HRV.out.nx hbel)
      have LL : Hid (∀ (A : Option Addr) (c : Nat) (l : List Int) (wx : World), Lits l → l.length ≤ 1000000 → RI w0 w0.heap.size A l → Below wr.heap.size wr wx → Calls Try.prog 31 #[.slice AV V.length cV, .slice A l.length c] wx (RetB wx (l.map (lt V)))) := Lib.hid fun A c l wx hl hn hr hx => reflits_any A AV c cV l V wx ((hr.nx HB2.out).nx hx) (HRV2.out.nx hx) hn HVL.out hl
      have HKK : Hid (∀ wx, Below wr.heap.size wr wx → wx.cell? ⟨w.heap.size, 3, none⟩ = some (.slice AO O.length cO) ∧ wx.cell? ⟨w.heap.size, 4, none⟩ = some (.slice AB D.length cB) ∧ wx.cell? ⟨w.heap.size, 5, none⟩ = some (.slice AC C.length cC)) := Lib.hid fun wx hx => by
        have q := HK.out.nx (bnx HB2.out hx) (by have := HS.out; omega)
        exact ⟨q.k3, q.k4, q.k5⟩
      have HPP : Hid (∀ wx, Below wr.heap.size wr wx → ∀ x y z, (((wx.setCell ⟨w.heap.size + 1, 0, none⟩ x).setCell ⟨w.heap.size + 1, 1, none⟩ y).setCell ⟨w.heap.size + 1, 2, none⟩ z).cell? ⟨w.heap.size, 3, none⟩ = some (.slice AO O.length cO) ∧ (((wx.setCell ⟨w.heap.size + 1, 0, none⟩ x).setCell ⟨w.heap.size + 1, 1, none⟩ y).setCell ⟨w.heap.size + 1, 2, none⟩ z).cell? ⟨w.heap.size, 4, none⟩ = some (.slice AB D.length cB) ∧ (((wx.setCell ⟨w.heap.size + 1, 0, none⟩ x).setCell ⟨w.heap.size + 1, 1, none⟩ y).setCell ⟨w.heap.size + 1, 2, none⟩ z).cell? ⟨w.heap.size, 5, none⟩ = some (.slice AC C.length cC)) := Lib.hid fun wx hx x y z => by
        obtain ⟨q1, q2, q3⟩ := HKK.out wx hx
        refine ⟨?_, ?_, ?_⟩
        · rw [World.cell?_setCell_other _ _ _ _ (by simp), World.cell?_setCell_other _ _ _ _ (by simp), World.cell?_setCell_other _ _ _ _ (by simp)]; exact q1
        · rw [World.cell?_setCell_other _ _ _ _ (by simp), World.cell?_setCell_other _ _ _ _ (by simp), World.cell?_setCell_other _ _ _ _ (by simp)]; exact q2
        · rw [World.cell?_setCell_other _ _ _ _ (by simp), World.cell?_setCell_other _ _ _ _ (by simp), World.cell?_setCell_other _ _ _ _ (by simp)]; exact q3
      have HTT : Hid (∀ wx, Below wr.heap.size wr wx → T3 wx (w.heap.size + 1) (.slice none 0 0) (.slice none 0 0) (.slice none 0 0)) := Lib.hid fun wx hx => HT.out.nx (bnx HB2.out hx) (by have := HS.out; omega)
      have L1 : Hid (∀ wx, Below wr.heap.size wr wx → Calls Try.prog 31 #[.slice AV V.length cV, .slice AO O.length cO] wx (RetB wx (O.map (lt V)))) := Lib.hid fun wx hx => LL.out AO cO O wx HM.out.lo HM.out.no HA.out.o hx
      have L2 : Hid (∀ wx, Below wr.heap.size wr wx → Calls Try.prog 31 #[.slice AV V.length cV, .slice AB D.length cB] wx (RetB wx (D.map (lt V)))) := Lib.hid fun wx hx => LL.out AB cB D wx HM.out.ld HM.out.nd HA.out.d hx
      have L3 : Hid (∀ wx, Below wr.heap.size wr wx → Calls Try.prog 31 #[.slice AV V.length cV, .slice AC C.length cC] wx (RetB wx (C.map (lt V)))) := Lib.hid fun wx hx => LL.out AC cC C wx HM.out.lc HM.out.nc HA.out.c hx
      rw [HTO.out] at L1
      rw [HTD.out] at L2
      rw [HTC.out] at L3
      clear r1 r2 r3 r4 hrow hbel hb2 k2 k6 LL HRV HM HA
      go_wp2_with fail
      have K0 := HKK.out _ hU
      clear k0 k1 k3 k4 k5
      go_region_held3 (fun w' => w'.cell? ⟨w.heap.size, 3, none⟩ = some (.slice AO O.length cO) ∧ w'.cell? ⟨w.heap.size, 4, none⟩ = some (.slice AB D.length cB) ∧ w'.cell? ⟨w.heap.size, 5, none⟩ = some (.slice AC C.length cC))
        (first | exact K0 | exact K1 | exact K2 | exact K3 | exact K4 _ _ _)
        (first
          | (go_at_call 31; ((with_reducible refine (L1.out _ hU).mono ?_); rintro e u1 ⟨A1, c1, rfl, r1, z1, n1, m1, hu1⟩; have U1 := bnx hU hu1; have K1 := HKK.out _ U1))
          | (go_at_call 31; ((with_reducible refine (L2.out _ U1).mono ?_); rintro e u2 ⟨A2, c2, rfl, r2, z2, n2, m2, hu2⟩; have U2 := bnx U1 hu2; have K2 := HKK.out _ U2))
          | (go_at_call 31; ((with_reducible refine (L3.out _ U2).mono ?_); rintro e u3 ⟨A3, c3, rfl, r3, z3, n3, m3, hu3⟩; have U3 := bnx U2 hu3; have K3 := HKK.out _ U3; have K4 := HPP.out _ U3; obtain ⟨e0, e1, e2, e3, e4, e5⟩ := HTT.out _ U3)))
      have TT := HTT.out _ U3
      have F1 := (HSN.out.nx U3).put3 TT (.slice A1 TO.length c1) (.slice A2 TD.length c2) (.slice A3 TC.length c3)
      have F2 := (SB.nx (⟨A1, c1, rfl, r1, z1, n1, m1⟩ : SB u1 (.slice A1 TO.length c1) TO) (bnx hu2 hu3)).put3 TT (.slice A1 TO.length c1) (.slice A2 TD.length c2) (.slice A3 TC.length c3)
      have F3 := (SB.nx (⟨A2, c2, rfl, r2, z2, n2, m2⟩ : SB u2 (.slice A2 TD.length c2) TD) hu3).put3 TT (.slice A1 TO.length c1) (.slice A2 TD.length c2) (.slice A3 TC.length c3)
      have F4 := SB.put3 (⟨A3, c3, rfl, r3, z3, n3, m3⟩ : SB u3 (.slice A3 TC.length c3) TC) TT (.slice A1 TO.length c1) (.slice A2 TD.length c2) (.slice A3 TC.length c3)
      have F5 := below_put3 ((HB.out.trans ((bnx HB2.out U3).mono HB.out.size))) (b := w.heap.size + 1) (by omega) (.slice A1 TO.length c1) (.slice A2 TD.length c2) (.slice A3 TC.length c3)
      have F6 := TT.put3 (.slice A1 TO.length c1) (.slice A2 TD.length c2) (.slice A3 TC.length c3)
      unfold put3 at F1 F2 F3 F4 F5 F6
      generalize ((u3.setCell ⟨w.heap.size + 1, 0, none⟩ (.slice A1 TO.length c1)).setCell ⟨w.heap.size + 1, 1, none⟩ (.slice A2 TD.length c2)).setCell ⟨w.heap.size + 1, 2, none⟩ (.slice A3 TC.length c3) = P at *
      have HF := Lib.hid (And.intro F1 (And.intro F2 (And.intro F3 (And.intro F4 F5))))
      clear F1 F2 F3 F4 F5 TT K0 K1 K2 K3 K4 U1 U2 U3 hu1 hu2 hu3 r1 z1 n1 m1 r2 z2 n2 m2 r3 z3 n3 m3 e0 e1 e2 e3 e4 e5 hU HPP HTT HKK L1 L2 L3
      obtain ⟨e0, e1, e2, e3, e4, e5⟩ := F6
      go_wp2
      refine bodyPost_ret (v := .tuple #[.slice An TN.length cn, .agg #[.slice A1 TO.length c1, .slice A2 TD.length c2, .slice A3 TC.length c3], .int .i64 0]) ?r rfl ?_
      case r =>
        simp only [results, Try.f16]
        go_simp
      exact ⟨_, _, _, _, rfl, HF.out.1, HF.out.2.1, HF.out.2.2.1, HF.out.2.2.2.1, HF.out.2.2.2.2⟩
    | succ g =>
      have hjl : j < L.length := by omega
      have hjl' : (j : Int) < L.length := by omega
      obtain ⟨ad, rfl, hab, hp0, hp1⟩ := HA.out.l j hjl
      have hp0' := (hb2.cell (p := ad.add (j * 2)) (by rw [block_add]; exact hab)).trans hp0
      obtain ⟨x0, x1⟩ := HM.out.ll.at j hjl
      have hnext := takeN L V j hjl
      have hmx : ((L.take j).map (fun p => lt V p.1)).length ≤ 1000000 := by simp; omega
      have C1 := refLit_any AV cV V (L.getD j (0, 0)).1 wr (HRV.out.nx hbel) HVL.out (by omega) (by omega)
      generalize (L.take j).map (fun p => lt V p.1) = M at *
      generalize lt V (L.getD j (0, 0)).1 = y at *
      generalize (L.getD j (0, 0)).1 = x at *
      have HN := Lib.hid hnext
      have HBEL := Lib.hid hbel
      have HMX := Lib.hid hmx
      clear hnext hp0 hp1 hmx hb2
      go_wp2_with fail
      refine C1.mono ?_; rintro e w' ⟨rfl, rfl⟩
      clear C1
      go_wp2_with (first | (at_builtin; refine wpB1 (z := w1) rfl (.tmp 31) (.tmp 40) rfl _ M rfl hrow y rfl HBEL.out (by have := HMX.out; omega) ?_) | fail)
      intro v3 w3 ho3 hb3
      have HO3 := Lib.hid ho3
      have HB3 := Lib.hid hb3
      clear hrow ho3 hb3 hbel hp0' k0 k1 k2 k3 k4 k5 k6
      go_wp2
      go_roundg g
      case measure => omega
      case rel => exact ⟨j + 1, by omega, by go_num, by rw [HN.out]; exact HO3.out, HB3.out⟩
end Go.Proofs.Ytkdocjcpehmljaa
/- The iterator of a run's states, and a range over it. -/
namespace Go.Proofs.Ytkdocjcpehmljaa
open Go.RowKit
/-- A row of flags apart from two blocks. -/
def RBX (bx br : Nat) (W : World) (A : Option Addr) (s : List Bool) : Prop := RB W W.heap.size A s ∧ (0 < s.length → ∀ ad, A = some ad → ad.block ≠ bx ∧ ad.block ≠ br ∧ ad.block < W.heap.size)
/-- All but two blocks lie as they lay. -/
structure KX (bx br : Nat) (W W' : World) : Prop where
  size : W.heap.size ≤ W'.heap.size
  same : ∀ k, k < W.heap.size → k ≠ bx → k ≠ br → W'.heap[k]? = W.heap[k]?
theorem KX.refl (bx br : Nat) (W : World) : KX bx br W W := ⟨Nat.le_refl _, fun _ _ _ _ => rfl⟩
theorem KX.trans {bx br : Nat} {A B C : World} (h : KX bx br A B) (k : KX bx br B C) : KX bx br A C :=
  ⟨Nat.le_trans h.size k.size, fun i hi h1 h2 => (k.same i (Nat.lt_of_lt_of_le hi h.size) h1 h2).trans (h.same i hi h1 h2)⟩
theorem KX.of_below {bx br : Nat} {W W' : World} (h : Below W.heap.size W W') : KX bx br W W' := ⟨h.size, fun k hk _ _ => h.block k hk⟩
theorem KX.cell {bx br : Nat} {W W' : World} (h : KX bx br W W') {p : Addr} (hlt : p.block < W.heap.size) (h1 : p.block ≠ bx) (h2 : p.block ≠ br) : W'.cell? p = W.cell? p := by
  simp only [World.cell?, h.same p.block hlt h1 h2]
theorem RBX.kx {bx br : Nat} {W W' : World} {A : Option Addr} {s : List Bool} (h : RBX bx br W A s) (k : KX bx br W W') : RBX bx br W' A s := by
  refine ⟨fun i hi => ?_, fun hp ad e => ?_⟩
  · obtain ⟨ad, e, hlt, hc⟩ := h.1 i hi
    obtain ⟨h1, h2, h3⟩ := h.2 (by omega) ad e
    exact ⟨ad, e, Nat.lt_of_lt_of_le hlt k.size, (k.cell (by rw [block_add]; exact h3) (by rw [block_add]; exact h1) (by rw [block_add]; exact h2)).trans hc⟩
  · obtain ⟨h1, h2, h3⟩ := h.2 hp ad e
    exact ⟨h1, h2, Nat.lt_of_lt_of_le h3 k.size⟩
/-- What the run holds so far. -/
structure RunI (w : World) (bx br cap : Nat) (pre : List (List Bool)) (W : World) : Prop where
  box : W.heap[bx]? = some (.cells #[.slice (some ⟨br, 0, none⟩) pre.length cap] 29 (0, 0))
  row : ∃ vs, W.ownsRow w.heap.size 28 1 (.slice (some ⟨br, 0, none⟩) pre.length cap) pre.length vs ∧ vs.length = pre.length ∧ ∀ i, i < pre.length → ∃ A c, vs[i]? = some (.slice A (pre.getD i []).length c) ∧ RBX bx br W A (pre.getD i []) ∧ (pre.getD i []).length ≤ c ∧ c ≤ maxLen ∧ (A = none → c = 0)
  bel : Below w.heap.size w W
  w1 : w.heap.size ≤ bx
  w2 : w.heap.size ≤ br
  ne : bx ≠ br
theorem RunI.kx {w W W' : World} {bx br cap : Nat} {pre : List (List Bool)} (h : RunI w bx br cap pre W) (hb : Below W.heap.size W W') : RunI w bx br cap pre W' := by
  have hbx : bx < W.heap.size := (Array.getElem?_eq_some_iff.1 h.box).1
  obtain ⟨vs, h1, h2, h3⟩ := h.row
  have hg : W.grownBy W' none := ⟨hb.os, hb.tape, hb.output, hb.size, fun k hk _ => hb.block k hk⟩
  refine ⟨(hb.block bx hbx).trans h.box, ⟨vs, h1.kept hg (.inr (by simp [Value.ownBlock])), h2, fun i hi => ?_⟩, h.bel.trans (hb.mono h.bel.size), h.w1, h.w2, h.ne⟩
  obtain ⟨A, c, q1, q2, q3⟩ := h3 i hi
  exact ⟨A, c, q1, q2.kx (KX.of_below hb), q3⟩
/-- The states, one by one. -/
def stAt (L G : List Pr) (s0 : List Bool) (ins : List (List Bool)) : Nat → List Bool
  | 0 => s0
  | j + 1 => nextL L G (stAt L G s0 ins j) (ins.getD j [])
def runL (L G : List Pr) (s0 : List Bool) (ins : List (List Bool)) : List (List Bool) := (List.range (ins.length + 1)).map (stAt L G s0 ins)
theorem range_next (f : Nat → List Bool) (j : Nat) : (List.range (j + 1)).map f = (List.range j).map f ++ [f j] := by rw [List.range_succ, List.map_append]; rfl
theorem stAt_len (L G : List Pr) (s0 : List Bool) (ins : List (List Bool)) (h : s0.length = L.length) (j : Nat) : (stAt L G s0 ins j).length = L.length := by
  cases j with
  | zero => exact h
  | succ j => simp [stAt, nextL]
set_option maxRecDepth 100000 in
set_option maxHeartbeats 8000000 in
theorem states1_any (I : Int) (AL AG AO AB AC AN : Option Addr) (cL cG cO cB cC cN : Nat) (L G : List Pr) (O D C : List Int) (N : List Nm) (w W1 : World) (l b bx br : Nat) (J : List (List Bool) → World → Prop) (AF AI : Option Addr) (cf ci : Nat) (s0 : List Bool) (ins : List (List Bool))
    (hA : RA w w.heap.size AL AG AO AB AC AN L G O D C N) (hM : Md I L G O D C) (hR : RR w w.heap.size AI ins) (hln : ins.length ≤ 1000000) (hin : ∀ r ∈ ins, (r.length : Int) = I) (hs0 : s0.length = L.length)
    (hF : RBX bx br W1 AF s0) (zF : s0.length ≤ cf ∧ cf ≤ maxLen ∧ (AF = none → cf = 0)) (hbw : Below w.heap.size w W1) (hbx : w.heap.size ≤ bx) (hbr : w.heap.size ≤ br) (hblt : b + 2 < W1.heap.size) (hne : bx < b ∧ br < b)
    (hk : KA W1 b I AL AG AO AB AC AN cL cG cO cB cC cN L G O D C N) (hc1 : W1.cell? ⟨b + 1, 0, none⟩ = some (.slice AF s0.length cf)) (hc2 : W1.cell? ⟨b + 2, 0, none⟩ = some (.slice AI ins.length ci))
    (hJ : ∀ pre W W', J pre W → Below W.heap.size W W' → J pre W') (h0 : J [] W1)
    (hJw : ∀ pre W, J pre W → Below w.heap.size w W)
    (hY : ∀ pre A c s W, J pre W → RBX bx br W A s → s.length ≤ c ∧ c ≤ maxLen ∧ (A = none → c = 0) → pre.length ≤ ins.length → YieldAt Fence.wide 0 Try.prog l #[.slice A s.length c] W (fun e W' => e = .returned (.bool true) ∧ J (pre ++ [s]) W' ∧ KX bx br W W')) :
    Calls Try.prog 46 #[.func (.yield l) #[] #[], .pointer (some ⟨b + 1, 0, none⟩), .pointer (some ⟨b + 2, 0, none⟩), .pointer (some ⟨b, 0, none⟩)] W1 (fun e W' => e = .returned (.tuple #[]) ∧ J (runL L G s0 ins) W' ∧ KX bx br W1 W') := by
  have HA := Lib.hid hA
  have HM := Lib.hid hM
  have HR := Lib.hid hR
  have HIN := Lib.hid hin
  have HK := Lib.hid hk
  have HJ := Lib.hid hJ
  have HJW := Lib.hid hJw
  have HY := Lib.hid hY
  have HF := Lib.hid hF
  have H0 := Lib.hid h0
  have HC2 := Lib.hid hc2
  have HS0 := Lib.hid hs0
  clear hA hM hR hin hk hJ hJw hY hF h0 hs0
  go_enter Try.func46, Try.ntmps46
  go_wp2
  go_loopg [5, 11] ins.length (fun g s5 s11 wr => ∃ (j : Nat) (A : Option Addr) (c : Nat) (s : List Bool), j + g = ins.length ∧ s11 = .int .i64 j ∧ s5 = .slice A s.length c ∧ s = stAt L G s0 ins j ∧ RBX bx br wr A s ∧ (s.length ≤ c ∧ c ≤ maxLen ∧ (A = none → c = 0)) ∧ J ((List.range j).map (stAt L G s0 ins)) wr ∧ KX bx br W1 wr)
  case atStart => exact ⟨0, AF, cf, s0, by omega, rfl, rfl, rfl, HF.out, zF, H0.out, KX.refl _ _ _⟩
  case round =>
    obtain ⟨j, A, c, s, hj, rfl, rfl, hs, hX, hz, hJ1, hK1⟩ := hrel
    have hy1 := HY.out _ A c s wr hJ1 hX hz (by simp; omega)
    obtain ⟨fn, tmps, assign, body, hy, hRd⟩ := hy1
    have HS := Lib.hid hs
    have HX := Lib.hid hX
    have HK1 := Lib.hid hK1
    have HJ1 := Lib.hid hJ1
    have HZ := Lib.hid hz
    clear hs hX hK1 hJ1 hz
    cases gk with
    | zero =>
      have q1 : ¬ ((j : Int) < ins.length) := by omega
      have q2 : ¬ (j < ins.length) := by omega
      go_upto_region 7 with fail
      refine (wpIn_wide (n := 1)).1 ?_
      gi_wp2
      refine hRd.mono ?_
      rintro e W' ⟨rfl, hJ2, hK2⟩
      rw [HS.out, ← range_next, show j + 1 = ins.length + 1 by omega] at hJ2
      have HF2 := Lib.hid (And.intro hJ2 (HK1.out.trans hK2))
      clear hRd hy hJ2 hK2
      gi_wp2
      go_wp2
      go_end0
      exact ⟨rfl, HF2.out⟩
    | succ g =>
      have hjl : j < ins.length := by omega
      have hjl' : (j : Int) < ins.length := by omega
      obtain ⟨ad, Ar, cr, rfl, hab, hcr, rr, nr, mr, zr⟩ := HR.out j hjl
      have hcr' : wr.cell? (ad.add j) = some (.slice Ar (ins.getD j []).length cr) := ((HJW.out _ _ HJ1.out).cell (by rw [block_add]; exact hab)).trans hcr
      have hri : ((ins.getD j []).length : Int) = I := HIN.out _ (by simp [List.getD_eq_getElem?_getD, hjl])
      have HNX : Hid (nextL L G s (ins.getD j []) = stAt L G s0 ins (j + 1)) := Lib.hid (by rw [HS.out]; rfl)
      have hsl : s.length = L.length := by rw [HS.out]; exact stAt_len L G s0 ins HS0.out j
      generalize ins.getD j [] = r at *
      have HRI := Lib.hid hri
      have HSL := Lib.hid hsl
      have HRR := Lib.hid rr
      clear hcr hri hsl rr
      go_upto_region 4 with fail
      refine (wpIn_wide (n := 1)).1 ?_
      gi_wp2
      refine hRd.mono ?_
      rintro e W' ⟨rfl, hJ2, hK2⟩
      gi_wp2
      rw [HS.out, ← range_next] at hJ2
      have hwb := HJW.out _ _ hJ2
      have hKW := HK1.out.trans hK2
      have hkb : ∀ wx, Below W'.heap.size W' wx → KA wx b I AL AG AO AB AC AN cL cG cO cB cC cN L G O D C N := fun wx hx => by
        have hz := hKW.size
        have q := HK.out
        have e : ∀ o, W'.cell? ⟨b, o, none⟩ = W1.cell? ⟨b, o, none⟩ := fun o => hKW.cell (by show b < _; omega) (by show b ≠ bx; omega) (by show b ≠ br; omega)
        have q' : KA W' b I AL AG AO AB AC AN cL cG cO cB cC cN L G O D C N := ⟨(e 0).trans q.k0, (e 1).trans q.k1, (e 2).trans q.k2, (e 3).trans q.k3, (e 4).trans q.k4, (e 5).trans q.k5, (e 6).trans q.k6⟩
        exact q'.nx hx (by omega)
      have HKB := Lib.hid hkb
      obtain ⟨TV, hTV⟩ : ∃ T, valsOf s r G = T := ⟨_, rfl⟩
      obtain ⟨TN, hTN⟩ : ∃ T, nextL L G s r = T := ⟨_, rfl⟩
      have CV : Hid (∀ wx, Below W'.heap.size W' wx → Calls Try.prog 27 #[.agg #[.int .i64 I, .slice AL L.length cL, .slice AG G.length cG, .slice AO O.length cO, .slice AB D.length cB, .slice AC C.length cC, .slice AN N.length cN], .slice A s.length c, .slice Ar r.length cr] wx (RetB wx TV)) := Lib.hid fun wx hx => by
        have hw2 := hwb.trans (hx.mono hwb.size)
        have m1 := HM.out.i1
        have m2 := HM.out.nl
        have e1 := HRI.out
        have e2 := HSL.out
        have ht := HM.out.tp
        rw [show 1 + I.toNat + L.length = 1 + r.length + s.length by omega] at ht
        rw [← hTV]
        exact valuesOf_any I AL AG AO AB AC AN cL cG cO cB cC cN L G O D C N A Ar c cr s r wx (HA.out.nx hw2).g ((HX.out.kx hK2).1.nx hx) (HRR.out.nx hw2) e1.symm e2.symm (by omega) (by omega) HM.out.ng ht
      have CN : Hid (∀ wx Av cv, Below W'.heap.size W' wx → RB wx wx.heap.size Av TV → Calls Try.prog 30 #[.agg #[.int .i64 I, .slice AL L.length cL, .slice AG G.length cG, .slice AO O.length cO, .slice AB D.length cB, .slice AC C.length cC, .slice AN N.length cN], .slice Av TV.length cv] wx (RetW wx TN)) := Lib.hid fun wx Av cv hx hv => by
        have hw2 := hwb.trans (hx.mono hwb.size)
        have m1 := HM.out.i1
        have m2 := HM.out.nl
        have m3 := HM.out.ng
        have e1 := HRI.out
        have e2 := HSL.out
        have hvl : TV.length ≤ maxLen := by rw [← hTV, valsOf_length]; unfold maxLen; omega
        have := nextn_any I AL AG AO AB AC AN cL cG cO cB cC cN L G O D C N Av cv TV wx (HA.out.nx hw2).l hv m2 hvl HM.out.ll
        rwa [show L.map (fun p => lt TV p.1) = TN by rw [← hTN, ← hTV]; rfl] at this
      rw [hTN] at HNX
      have hU := (Below.refl W'.heap.size W').drew
      obtain ⟨k0, k1, k2, k3, k4, k5, k6⟩ := HKB.out _ hU
      have K0 := And.intro k0 (And.intro k1 (And.intro k2 (And.intro k3 (And.intro k4 (And.intro k5 k6)))))
      have HJ2 := Lib.hid hJ2
      have HKW := Lib.hid hKW
      clear hRd hy hJ2 hK2 hcr' hwb hKW hkb hTV hTN k0 k1 k2 k3 k4 k5 k6 nr mr zr
      go_wp2_with fail
      go_region_held3 (fun w' => w'.cell? ⟨b, 0, none⟩ = some (.int .i64 I) ∧ w'.cell? ⟨b, 1, none⟩ = some (.slice AL L.length cL) ∧ w'.cell? ⟨b, 2, none⟩ = some (.slice AG G.length cG) ∧ w'.cell? ⟨b, 3, none⟩ = some (.slice AO O.length cO) ∧ w'.cell? ⟨b, 4, none⟩ = some (.slice AB D.length cB) ∧ w'.cell? ⟨b, 5, none⟩ = some (.slice AC C.length cC) ∧ w'.cell? ⟨b, 6, none⟩ = some (.slice AN N.length cN))
        (first | exact K0 | exact K1 | exact K2)
        (first
          | (go_at_call 27; ((with_reducible refine (CV.out _ hU).mono ?_); rintro e u1 ⟨Av, cv, rfl, rv, zv, nv, mv, hu1⟩; have U1 := bnx hU hu1; have P1 := HKB.out _ U1; have K1 := And.intro P1.k0 (And.intro P1.k1 (And.intro P1.k2 (And.intro P1.k3 (And.intro P1.k4 (And.intro P1.k5 P1.k6))))); clear P1))
          | (go_at_call 30; ((with_reducible refine (CN.out _ _ _ U1 rv).mono ?_); rintro e u2 ⟨gn, cn, rfl, hgn, hgl, rn, nn, mn, hu2⟩; have U2 := bnx U1 hu2; have P2 := HKB.out _ U2; have K2 := And.intro P2.k0 (And.intro P2.k1 (And.intro P2.k2 (And.intro P2.k3 (And.intro P2.k4 (And.intro P2.k5 P2.k6))))); clear P2)))
      have HU1 := Lib.hid U1
      have HU2 := Lib.hid U2
      have HGN := Lib.hid (And.intro hgn (And.intro rn (And.intro nn mn)))
      have HGL := Lib.hid hgl
      clear K0 K1 K2 U1 U2 hu1 hu2 hU rv zv nv mv rn nn mn CV CN HKB hgn hgl
      go_wp2
      go_roundg g
      case measure => omega
      case rel =>
        have z1 := HU1.out.size
        have z2 := HKW.out.size
        have z3 := HGN.out.1
        refine ⟨j + 1, some ⟨gn, 0, none⟩, cn, TN, by omega, by go_num, rfl, HNX.out, ⟨HGN.out.2.1, ?_⟩, ⟨HGN.out.2.2.1, HGN.out.2.2.2, fun e => by cases e⟩, HJ.out _ _ _ HJ2.out HU2.out, HKW.out.trans (KX.of_below HU2.out)⟩
        rintro _ ad' e
        cases e
        exact ⟨by show gn ≠ bx; omega, by show gn ≠ br; omega, HGL.out⟩
end Go.Proofs.Ytkdocjcpehmljaa
