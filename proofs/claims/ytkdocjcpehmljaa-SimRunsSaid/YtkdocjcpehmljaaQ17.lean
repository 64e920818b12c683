/-
  The reference's step, whose next state lies in a block of its own.
  Rows of rows that a call made for itself.
-/
import Derived.Test.YtkdocjcpehmljaaProg
import Derived.WalkKit
import Derived.WalkSpells
import Derived.WalkLawsBesides
import Derived.Lib.Hide
import Derived.BigQuiet
import Derived.Deep.QuietTactic
import Derived.Deep.RegionWith
import Derived.Deep.RegionHeld3
import Derived.Test.YtkdocjcpehmljaaQ07
import Derived.Test.YtkdocjcpehmljaaQ12
import Derived.Deep.AppendLies
set_option linter.unusedVariables false
/- The reference's step, whose next state lies in a block of its own. -/
namespace Go.Proofs.Ytkdocjcpehmljaa
open Go.RowKit
theorem OwnB.fresh {w : World} {base : Nat} {v : Value} {l : List Bool} (h : OwnB w base v l) : ∀ ad n c, v = .slice (some ad) n c → base ≤ ad.block := by
  intro ad n c e
  rcases h.2 with ⟨rfl, h0⟩ | ⟨g, cap, cur, rfl, hg, _⟩
  · cases e
  · cases e; exact hg
/-- What a step tells, the next state in a block of its own. -/
def RetTF (w0 : World) (n o d c : List Bool) (x : Int) (e : Ending) (w' : World) : Prop := ∃ An cn vo vd vc, e = .returned (.tuple #[.slice An n.length cn, .agg #[vo, vd, vc], .int .i64 x]) ∧ (∀ ad, An = some ad → w0.heap.size ≤ ad.block) ∧ SB w' (.slice An n.length cn) n ∧ SB w' vo o ∧ SB w' vd d ∧ SB w' vc c ∧ Below w0.heap.size w0 w'
set_option maxRecDepth 100000 in
set_option maxHeartbeats 8000000 in
theorem refStep_fresh (I : Int) (AL AG AO AB AC AN : Option Addr) (cL cG cO cB cC cN : Nat) (L G : List Pr) (O D C : List Int) (N : List Nm) (AS AI : Option Addr) (cs ci : Nat) (st inp : List Bool) (w : World) (hA : RA w w.heap.size AL AG AO AB AC AN L G O D C N) (hS : RB w w.heap.size AS st) (hI : RB w w.heap.size AI inp) (zS : AS = none → cs = 0) (zI : AI = none → ci = 0) (hM : Md I L G O D C) (h1 : st.length = L.length) (h2 : (inp.length : Int) = I) :
    Calls Try.prog 16 #[.agg #[.int .i64 I, .slice AL L.length cL, .slice AG G.length cG, .slice AO O.length cO, .slice AB D.length cB, .slice AC C.length cC, .slice AN N.length cN], .slice AS st.length cs, .slice AI inp.length ci] w (RetTF w (nextL L G st inp) (tellL O G st inp) (tellL D G st inp) (tellL C G st inp) 0) := by
  have hb := bal (bal (Below.refl w.heap.size w) (.cells #[.int .i64 I, .slice AL L.length cL, .slice AG G.length cG, .slice AO O.length cO, .slice AB D.length cB, .slice AC C.length cC, .slice AN N.length cN] 27)) (.cells #[.slice none 0 0, .slice none 0 0, .slice none 0 0] 40)
  have C1 := refValues_yes I AL AG AO AB AC AN cL cG cO cB cC cN L G O D C N AS AI cs ci st inp ((w.alloc (.cells #[.int .i64 I, .slice AL L.length cL, .slice AG G.length cG, .slice AO O.length cO, .slice AB D.length cB, .slice AC C.length cC, .slice AN N.length cN] 27)).alloc (.cells #[.slice none 0 0, .slice none 0 0, .slice none 0 0] 40)) (hA.nx hb) (hS.nx hb) (hI.nx hb) zS zI hM h1 h2
  have ht : T3 ((w.alloc (.cells #[.int .i64 I, .slice AL L.length cL, .slice AG G.length cG, .slice AO O.length cO, .slice AB D.length cB, .slice AC C.length cC, .slice AN N.length cN] 27)).alloc (.cells #[.slice none 0 0, .slice none 0 0, .slice none 0 0] 40)) (w.heap.size + 1) (.slice none 0 0) (.slice none 0 0) (.slice none 0 0) := by
    have := T3.new (w.alloc (.cells #[.int .i64 I, .slice AL L.length cL, .slice AG G.length cG, .slice AO O.length cO, .slice AB D.length cB, .slice AC C.length cC, .slice AN N.length cN] 27)) (.slice none 0 0) (.slice none 0 0) (.slice none 0 0) 40
    simpa using this
  have hk : KA ((w.alloc (.cells #[.int .i64 I, .slice AL L.length cL, .slice AG G.length cG, .slice AO O.length cO, .slice AB D.length cB, .slice AC C.length cC, .slice AN N.length cN] 27)).alloc (.cells #[.slice none 0 0, .slice none 0 0, .slice none 0 0] 40)) w.heap.size I AL AG AO AB AC AN cL cG cO cB cC cN L G O D C N := by
    constructor <;> go_simp
  have hs : ((w.alloc (.cells #[.int .i64 I, .slice AL L.length cL, .slice AG G.length cG, .slice AO O.length cO, .slice AB D.length cB, .slice AC C.length cC, .slice AN N.length cN] 27)).alloc (.cells #[.slice none 0 0, .slice none 0 0, .slice none 0 0] 40)).heap.size = w.heap.size + 2 := by simp
  have hvl : (valsOf st inp G).length ≤ maxLen := by
    rw [valsOf_length]; have := hM.i1; have := hM.nl; have := hM.ng; unfold maxLen; omega
  have nl := hM.nl
  have HM := Lib.hid hM
  have HA := Lib.hid (hA.nx hb)
  unfold nextL tellL
  clear hA hS hI hM h1 h2
  generalize valsOf st inp G = V at *
  obtain ⟨TN, hTN⟩ : ∃ T, L.map (fun p => lt V p.1) = T := ⟨_, rfl⟩
  obtain ⟨TO, hTO⟩ : ∃ T, O.map (lt V) = T := ⟨_, rfl⟩
  obtain ⟨TD, hTD⟩ : ∃ T, D.map (lt V) = T := ⟨_, rfl⟩
  obtain ⟨TC, hTC⟩ : ∃ T, C.map (lt V) = T := ⟨_, rfl⟩
  rw [hTN, hTO, hTD, hTC]
  have HTN := Lib.hid hTN
  have HTO := Lib.hid hTO
  have HTD := Lib.hid hTD
  have HTC := Lib.hid hTC
  clear hTN hTO hTD hTC
  go_enter Try.func16, Try.ntmps16
  go_wp2_with fail
  refine C1.mono ?_; rintro e w1 ⟨AV, cV, rfl, rV, zV, nV, mV, hb1⟩
  generalize (w.alloc (.cells #[.int .i64 I, .slice AL L.length cL, .slice AG G.length cG, .slice AO O.length cO, .slice AB D.length cB, .slice AC C.length cC, .slice AN N.length cN] 27)).alloc (.cells #[.slice none 0 0, .slice none 0 0, .slice none 0 0] 40) = w0 at *
  have HS := Lib.hid hs
  have HVL := Lib.hid hvl
  have HRV := Lib.hid rV
  have HB1 := Lib.hid hb1
  have HT := Lib.hid ht
  have HK := Lib.hid hk
  have HB := Lib.hid hb
  clear C1 hs hvl rV zV nV mV hb1 ht hk hb
  go_wp2
  go_loopg [11, 12] L.length (fun g s11 s12 wr => ∃ j : Nat, j + g = L.length ∧ s12 = .int .i64 j ∧ OwnB wr w1.heap.size s11 ((L.take j).map (fun p => lt V p.1)) ∧ Below w1.heap.size w1 wr)
  case atStart => exact ⟨0, by omega, rfl, OwnB.nil _ _, Below.refl _ _⟩
  case round =>
    obtain ⟨j, hj, rfl, hrow, hbel⟩ := hrel
    have hb2 := bnx HB1.out hbel
    obtain ⟨k0, k1, k2, k3, k4, k5, k6⟩ := HK.out.nx hb2 (by have := HS.out; omega)
    cases gk with
    | zero =>
      have q1 : ¬ ((j : Int) < L.length) := by omega
      have q2 : ¬ (j < L.length) := by omega
      rw [show L.take j = L from List.take_of_length_le (by omega), HTN.out] at hrow
      have hfr := OwnB.fresh hrow
      obtain ⟨An, cn, rfl, r1, r2, r3, r4⟩ := hrow.val
      have HFR : Hid (∀ ad, An = some ad → w.heap.size ≤ ad.block) := Lib.hid fun ad e => by
        have h1 := hfr ad TN.length cn (by rw [e])
        have h2 := HB1.out.size
        have h3 := HS.out
        omega
      clear hfr
      have HSN := Lib.hid (show SB wr (.slice An TN.length cn) TN from ⟨An, cn, rfl, r1, r2, r3, r4⟩)
      have hU := (Below.refl wr.heap.size wr).drew
      have HB2 := Lib.hid hb2
      have HRV2 := Lib.hid (HRV.out.nx hbel)
      have LL : Hid (∀ (A : Option Addr) (c : Nat) (l : List Int) (wx : World), Lits l → l.length ≤ 1000000 → RI w0 w0.heap.size A l → Below wr.heap.size wr wx → Calls Try.prog 31 #[.slice AV V.length cV, .slice A l.length c] wx (RetB wx (l.map (lt V)))) := Lib.hid fun A c l wx hl hn hr hx => reflits_any A AV c cV l V wx ((hr.nx HB2.out).nx hx) (HRV2.out.nx hx) hn HVL.out hl
      have HKK : Hid (∀ wx, Below wr.heap.size wr wx → wx.cell? ⟨w.heap.size, 3, none⟩ = some (.slice AO O.length cO) ∧ wx.cell? ⟨w.heap.size, 4, none⟩ = some (.slice AB D.length cB) ∧ wx.cell? ⟨w.heap.size, 5, none⟩ = some (.slice AC C.length cC)) := Lib.hid fun wx hx => by
        have q := HK.out.nx (bnx HB2.out hx) (by have := HS.out; omega)
        exact ⟨q.k3, q.k4, q.k5⟩
      have HPP : Hid (∀ wx, Below wr.heap.size wr wx → ∀ x y z, (((wx.setCell ⟨w.heap.size + 1, 0, none⟩ x).setCell ⟨w.heap.size + 1, 1, none⟩ y).setCell ⟨w.heap.size + 1, 2, none⟩ z).cell? ⟨w.heap.size, 3, none⟩ = some (.slice AO O.length cO) ∧ (((wx.setCell ⟨w.heap.size + 1, 0, none⟩ x).setCell ⟨w.heap.size + 1, 1, none⟩ y).setCell ⟨w.heap.size + 1, 2, none⟩ z).cell? ⟨w.heap.size, 4, none⟩ = some (.slice AB D.length cB) ∧ (((wx.setCell ⟨w.heap.size + 1, 0, none⟩ x).setCell ⟨w.heap.size + 1, 1, none⟩ y).setCell ⟨w.heap.size + 1, 2, none⟩ z).cell? ⟨w.heap.size, 5, none⟩ = some (.slice AC C.length cC)) := Lib.hid fun wx hx x y z => by
        obtain ⟨q1, q2, q3⟩ := HKK.out wx hx
        refine ⟨?_, ?_, ?_⟩
        · rw [World.cell?_setCell_other _ _ _ _ (by simp), World.cell?_setCell_other _ _ _ _ (by simp), World.cell?_setCell_other _ _ _ _ (by simp)]; exact q1
        · rw [World.cell?_setCell_other _ _ _ _ (by simp), World.cell?_setCell_other _ _ _ _ (by simp), World.cell?_setCell_other _ _ _ _ (by simp)]; exact q2
        · rw [World.cell?_setCell_other _ _ _ _ (by simp), World.cell?_setCell_other _ _ _ _ (by simp), World.cell?_setCell_other _ _ _ _ (by simp)]; exact q3
      have HTT : Hid (∀ wx, Below wr.heap.size wr wx → T3 wx (w.heap.size + 1) (.slice none 0 0) (.slice none 0 0) (.slice none 0 0)) := Lib.hid fun wx hx => HT.out.nx (bnx HB2.out hx) (by have := HS.out; omega)
      have L1 : Hid (∀ wx, Below wr.heap.size wr wx → Calls Try.prog 31 #[.slice AV V.length cV, .slice AO O.length cO] wx (RetB wx (O.map (lt V)))) := Lib.hid fun wx hx => LL.out AO cO O wx HM.out.lo HM.out.no HA.out.o hx
      have L2 : Hid (∀ wx, Below wr.heap.size wr wx → Calls Try.prog 31 #[.slice AV V.length cV, .slice AB D.length cB] wx (RetB wx (D.map (lt V)))) := Lib.hid fun wx hx => LL.out AB cB D wx HM.out.ld HM.out.nd HA.out.d hx
      have L3 : Hid (∀ wx, Below wr.heap.size wr wx → Calls Try.prog 31 #[.slice AV V.length cV, .slice AC C.length cC] wx (RetB wx (C.map (lt V)))) := Lib.hid fun wx hx => LL.out AC cC C wx HM.out.lc HM.out.nc HA.out.c hx
      rw [HTO.out] at L1
      rw [HTD.out] at L2
      rw [HTC.out] at L3
      clear r1 r2 r3 r4 hrow hbel hb2 k2 k6 LL HRV HM HA
      go_wp2_with fail
      have K0 := HKK.out _ hU
      clear k0 k1 k3 k4 k5
      go_region_held3 (fun w' => w'.cell? ⟨w.heap.size, 3, none⟩ = some (.slice AO O.length cO) ∧ w'.cell? ⟨w.heap.size, 4, none⟩ = some (.slice AB D.length cB) ∧ w'.cell? ⟨w.heap.size, 5, none⟩ = some (.slice AC C.length cC))
        (first | exact K0 | exact K1 | exact K2 | exact K3 | exact K4 _ _ _)
        (first
          | (go_at_call 31; ((with_reducible refine (L1.out _ hU).mono ?_); rintro e u1 ⟨A1, c1, rfl, r1, z1, n1, m1, hu1⟩; have U1 := bnx hU hu1; have K1 := HKK.out _ U1))
          | (go_at_call 31; ((with_reducible refine (L2.out _ U1).mono ?_); rintro e u2 ⟨A2, c2, rfl, r2, z2, n2, m2, hu2⟩; have U2 := bnx U1 hu2; have K2 := HKK.out _ U2))
          | (go_at_call 31; ((with_reducible refine (L3.out _ U2).mono ?_); rintro e u3 ⟨A3, c3, rfl, r3, z3, n3, m3, hu3⟩; have U3 := bnx U2 hu3; have K3 := HKK.out _ U3; have K4 := HPP.out _ U3; obtain ⟨e0, e1, e2, e3, e4, e5⟩ := HTT.out _ U3)))
      have TT := HTT.out _ U3
      have F1 := (HSN.out.nx U3).put3 TT (.slice A1 TO.length c1) (.slice A2 TD.length c2) (.slice A3 TC.length c3)
      have F2 := (SB.nx (⟨A1, c1, rfl, r1, z1, n1, m1⟩ : SB u1 (.slice A1 TO.length c1) TO) (bnx hu2 hu3)).put3 TT (.slice A1 TO.length c1) (.slice A2 TD.length c2) (.slice A3 TC.length c3)
      have F3 := (SB.nx (⟨A2, c2, rfl, r2, z2, n2, m2⟩ : SB u2 (.slice A2 TD.length c2) TD) hu3).put3 TT (.slice A1 TO.length c1) (.slice A2 TD.length c2) (.slice A3 TC.length c3)
      have F4 := SB.put3 (⟨A3, c3, rfl, r3, z3, n3, m3⟩ : SB u3 (.slice A3 TC.length c3) TC) TT (.slice A1 TO.length c1) (.slice A2 TD.length c2) (.slice A3 TC.length c3)
      have F5 := below_put3 ((HB.out.trans ((bnx HB2.out U3).mono HB.out.size))) (b := w.heap.size + 1) (by omega) (.slice A1 TO.length c1) (.slice A2 TD.length c2) (.slice A3 TC.length c3)
      have F6 := TT.put3 (.slice A1 TO.length c1) (.slice A2 TD.length c2) (.slice A3 TC.length c3)
      unfold put3 at F1 F2 F3 F4 F5 F6
      generalize ((u3.setCell ⟨w.heap.size + 1, 0, none⟩ (.slice A1 TO.length c1)).setCell ⟨w.heap.size + 1, 1, none⟩ (.slice A2 TD.length c2)).setCell ⟨w.heap.size + 1, 2, none⟩ (.slice A3 TC.length c3) = P at *
      have HF := Lib.hid (And.intro F1 (And.intro F2 (And.intro F3 (And.intro F4 F5))))
      clear F1 F2 F3 F4 F5 TT K0 K1 K2 K3 K4 U1 U2 U3 hu1 hu2 hu3 r1 z1 n1 m1 r2 z2 n2 m2 r3 z3 n3 m3 e0 e1 e2 e3 e4 e5 hU HPP HTT HKK L1 L2 L3
      obtain ⟨e0, e1, e2, e3, e4, e5⟩ := F6
      go_wp2
      refine bodyPost_ret (v := .tuple #[.slice An TN.length cn, .agg #[.slice A1 TO.length c1, .slice A2 TD.length c2, .slice A3 TC.length c3], .int .i64 0]) ?r rfl ?_
      case r =>
        simp only [results, Try.f16]
        go_simp
      exact ⟨An, cn, _, _, _, rfl, HFR.out, HF.out.1, HF.out.2.1, HF.out.2.2.1, HF.out.2.2.2.1, HF.out.2.2.2.2⟩
    | succ g =>
      have hjl : j < L.length := by omega
      have hjl' : (j : Int) < L.length := by omega
      obtain ⟨ad, rfl, hab, hp0, hp1⟩ := HA.out.l j hjl
      have hp0' := (hb2.cell (p := ad.add (j * 2)) (by rw [block_add]; exact hab)).trans hp0
      obtain ⟨x0, x1⟩ := HM.out.ll.at j hjl
      have hnext := takeN L V j hjl
      have hmx : ((L.take j).map (fun p => lt V p.1)).length ≤ 1000000 := by simp; omega
      have C1 := refLit_any AV cV V (L.getD j (0, 0)).1 wr (HRV.out.nx hbel) HVL.out (by omega) (by omega)
      generalize (L.take j).map (fun p => lt V p.1) = M at *
      generalize lt V (L.getD j (0, 0)).1 = y at *
      generalize (L.getD j (0, 0)).1 = x at *
      have HN := Lib.hid hnext
      have HBEL := Lib.hid hbel
      have HMX := Lib.hid hmx
      clear hnext hp0 hp1 hmx hb2
      go_wp2_with fail
      refine C1.mono ?_; rintro e w' ⟨rfl, rfl⟩
      clear C1
      go_wp2_with (first | (at_builtin; refine wpB1 (z := w1) rfl (.tmp 31) (.tmp 40) rfl _ M rfl hrow y rfl HBEL.out (by have := HMX.out; omega) ?_) | fail)
      intro v3 w3 ho3 hb3
      have HO3 := Lib.hid ho3
      have HB3 := Lib.hid hb3
      clear hrow ho3 hb3 hbel hp0' k0 k1 k2 k3 k4 k5 k6
      go_wp2
      go_roundg g
      case measure => omega
      case rel => exact ⟨j + 1, by omega, by go_num, by rw [HN.out]; exact HO3.out, HB3.out⟩
end Go.Proofs.Ytkdocjcpehmljaa
/- Rows of rows that a call made for itself. -/
namespace Go.Proofs.Ytkdocjcpehmljaa
open Go.RowKit
theorem rows_info : (Try.prog.info? 28).map (fun i => (i.zero, i.size, i.bytes)) = some (some (.slice none 0 0), 1, 24) := by kernel_rfl
/-- A row of flags that lies elsewhere than the row v owns. -/
def RBO (v : Value) (W : World) (A : Option Addr) (s : List Bool) : Prop := RB W W.heap.size A s ∧ ∀ ad, A = some ad → 0 < s.length → v.ownBlock ≠ some ad.block
theorem RBO.nx {v : Value} {W W' : World} {A : Option Addr} {s : List Bool} (h : RBO v W A s) (hb : Below W.heap.size W W') : RBO v W' A s := ⟨h.1.nx hb, h.2⟩
/-- An own row of rows of flags. -/
def OutR (base : Nat) (v : Value) (pre : List (List Bool)) (W : World) : Prop :=
  ∃ vs, W.ownsRow base 28 1 v pre.length vs ∧ vs.length = pre.length ∧ ∀ i, i < pre.length → ∃ A c, vs[i]? = some (.slice A (pre.getD i []).length c) ∧ RBO v W A (pre.getD i []) ∧ (pre.getD i []).length ≤ c ∧ c ≤ maxLen ∧ (A = none → c = 0)
theorem OutR.nx {base : Nat} {v : Value} {pre : List (List Bool)} {W W' : World} (h : OutR base v pre W) (hb : Below W.heap.size W W') : OutR base v pre W' := by
  obtain ⟨vs, h1, h2, h3⟩ := h
  refine ⟨vs, ?_, h2, fun i hi => ?_⟩
  · refine World.ownsRow.kept h1 (row := none) ?_ ?_
    · exact ⟨hb.os, hb.tape, hb.output, hb.size, fun k hk _ => hb.block k hk⟩
    · cases hv : v.ownBlock with
      | none => exact .inl rfl
      | some k => exact .inr (by simp)
  · obtain ⟨A, c, q1, q2, q3⟩ := h3 i hi
    exact ⟨A, c, q1, q2.nx hb, q3⟩
theorem OutR.rr {base : Nat} {v : Value} {pre : List (List Bool)} {W : World} (h : OutR base v pre W) : ∃ (A : Option Addr) (c : Nat), v = .slice A pre.length c ∧ RR W W.heap.size A pre ∧ (A = none → c = 0) ∧ pre.length ≤ c ∧ c ≤ maxLen := by
  obtain ⟨vs, h1, h2, h3⟩ := h
  rcases h1.2 with ⟨rfl, h0⟩ | ⟨g, cap, cur, rfl, hg, hh, k1, k2, k3, k4⟩
  · have : pre = [] := List.eq_nil_of_length_eq_zero h0
    subst this
    exact ⟨none, 0, rfl, RR.nil _ _ _, fun _ => rfl, by simp, by unfold maxLen; omega⟩
  · refine ⟨_, cap, rfl, fun i hi => ?_, (fun e => by cases e), k1, k2⟩
    obtain ⟨A, c, q1, q2, q3⟩ := h3 i hi
    refine ⟨_, A, c, rfl, (World.ownsRow.lt h1 g rfl).2, ?_, q2.1, q3⟩
    rw [add_loc, World.ownsRow.cellAt h1 i (by omega), q1]
theorem RBO.turn {v : Value} {w w' wa : World} {A : Option Addr} {s : List Bool} {g n cap : Nat} (h : RBO v w A s) (ha : Below w.heap.size w wa) (hg : wa.grownBy w' v.ownBlock) (hat : v.ownBlock = some g ∨ g = wa.heap.size) : RBO (.slice (some ⟨g, 0, none⟩) n cap) w' A s := by
  refine ⟨fun i hi => ?_, fun ad e hp => ?_⟩
  · obtain ⟨ad, e, hlt, hc⟩ := h.1 i hi
    have hne := h.2 ad e (by omega)
    have hs := ha.size
    refine ⟨ad, e, Nat.lt_of_lt_of_le hlt (Nat.le_trans hs hg.size), ?_⟩
    rw [World.grownBy.cell_far hg (ad.add i) (by rw [block_add]; omega) (by rw [block_add]; exact fun e => hne e.symm), ha.cell (by rw [block_add]; exact hlt)]
    exact hc
  · obtain ⟨ad', e', hlt, _⟩ := h.1 0 hp
    rw [e] at e'
    cases e'
    have hne := h.2 ad e hp
    have hs := ha.size
    intro hx
    have hx' : g = ad.block := by simpa [Value.ownBlock] using hx
    rcases hat with h' | h'
    · exact hne (by rw [h', hx'])
    · omega
/-- 'append(out, r)'. -/
theorem wpRow1 {w : World} {ops : Array Oper} {rest : List Oper} {o : Oper} {a : Act} {Q : Exit → Act → World → Prop} (hgd : o.guard = none) (s x : Operand)
    (ho : o.op = .call { callee := .builtin .append, args := #[s, x], argTypes := #[29, 29] })
    (base : Nat) (v : Value) (pre : List (List Bool)) (hs : a.eval s = v) (hown : OutR base v pre w) (A : Option Addr) (c : Nat) (r : List Bool) (hx : a.eval x = .slice (some ⟨w.heap.size, 0, none⟩) 1 1) (hr : RBO v w A r) (hc : r.length ≤ c ∧ c ≤ maxLen ∧ (A = none → c = 0)) (hbase : base ≤ w.heap.size) (hn : pre.length ≤ 1000001)
    (h : ∀ v' w', OutR base v' (pre ++ [r]) w' → RBO v' w' A r → Below base w w' → wpList Try.prog ops Q rest (a.put o.dst v') w') : wpList Try.prog ops Q (o :: rest) a (w.alloc (.cells #[.slice A r.length c] 28)) := by
  obtain ⟨i0, hi0, hz0, hz1, hz2⟩ := info_parts rows_info
  obtain ⟨vs, h1, h2, h3⟩ := hown
  have ha := bal (Below.refl w.heap.size w) (.cells #[.slice A r.length c] 28)
  refine wpList_append_lies _ hgd s x 29 ho base 28 i0 (.slice none 0 0) 1 24 Try.underlying29 hi0 hz0 hz1 hz2 rfl (by omega) v pre.length vs hs (World.ownsRow.alloc h1 _) ⟨w.heap.size, 0, none⟩ 1 1 [.slice A r.length c] hx rfl (cell_one_new _ _ _) ?_ (by omega) (by unfold maxLen; omega) (by omega) (by simp; omega) _ rfl ?_
  · intro u hu; simp at hu; subst hu; rfl
  · intro g cap w' hown' hg hat hlt
    refine h _ w' ⟨vs ++ [.slice A r.length c], by simpa using hown', by simp [h2], fun i hi => ?_⟩ (hr.turn ha hg hat) (((Below.refl base w).alloc hbase _).grown hg (by simp; omega) (fun k hk => ((World.ownsRow.lt h1) k hk).1))
    by_cases hil : i < pre.length
    · obtain ⟨A', c', e, q1, q2⟩ := h3 i hil
      have e1 : (pre ++ [r]).getD i [] = pre.getD i [] := by simp [List.getD_eq_getElem?_getD, List.getElem?_append_left hil]
      rw [e1]
      exact ⟨A', c', by rw [List.getElem?_append_left (by omega)]; exact e, q1.turn ha hg hat, q2⟩
    · have hi' : i = pre.length := by simp at hi; omega
      subst hi'
      have e1 : (pre ++ [r]).getD pre.length [] = r := by simp [List.getD_eq_getElem?_getD]
      rw [e1]
      exact ⟨A, c, by rw [List.getElem?_append_right (by omega), h2]; simp, hr.turn ha hg hat, hc⟩
end Go.Proofs.Ytkdocjcpehmljaa
