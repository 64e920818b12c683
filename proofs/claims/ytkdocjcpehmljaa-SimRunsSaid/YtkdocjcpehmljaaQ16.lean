/-
  Appends in a region that draws its order.
  One statement's walk: SimTaken.
-/
import Derived.Test.YtkdocjcpehmljaaProg
import Derived.WalkKit
import Derived.WalkSpells
import Derived.WalkLawsBesides
import Derived.Lib.Hide
import Derived.BigQuiet
import Derived.Deep.QuietTactic
import Derived.Deep.RegionWith
import Derived.Deep.RegionHeld3
import Derived.Test.YtkdocjcpehmljaaQ12
import Derived.Test.YtkdocjcpehmljaaQ15
import Derived.IntWalk
set_option linter.unusedVariables false
/- Appends in a region that draws its order. -/
namespace Go.Proofs.Ytkdocjcpehmljaa
open Go.RowKit
theorem wpBso {w : World} {o : Oper} {a : Act} {K : Act → World → Prop} {Q : Exit → Act → World → Prop} (s x : Operand)
    (ho : o.op = .call { callee := .builtin .append, args := #[s, x], argTypes := #[28, 28] })
    (base : Nat) (v : Value) (l : List Bool) (hs : a.eval s = v) (hown : OwnB w base v l) (A : Option Addr) (c : Nat) (m : List Bool) (hx : a.eval x = .slice A m.length c) (hr : RB w w.heap.size A m) (hbase : base ≤ w.heap.size)
    (hn : l.length + m.length ≤ 3000000000) (hA : A = none → c = 0)
    (h : ∀ v' w', OwnB w' base v' (l ++ m) → Below base w w' → K (a.put o.dst v') w') : o.wp Try.prog a w K Q := by
  obtain ⟨i0, hi0, hz0, hz1, hz2⟩ := info_parts bool_info
  cases A with
  | none =>
    have h0 : m = [] := by
      cases m with
      | nil => rfl
      | cons x l => obtain ⟨ad, e, _⟩ := hr 0 (by simp); cases e
    subst h0
    obtain rfl := hA rfl
    have hrun := run_append_owned_none (P := Try.prog) (w := w) base 28 o.type 4 i0 1 Try.underlying28 hi0 v l.length (l.map Value.bool) hown
    have hx' : a.eval x = .slice none 0 0 := hx
    unfold Oper.wp
    simp [execOp, ho, resolve, invoke, builtin, hs, hx', hrun, Result.andThen]
    exact h v w (by simpa using hown) (Below.refl _ _)
  | some ad =>
    refine wp_append_own w s x 28 ho base 4 i0 (.bool false) 1 1 Try.underlying28 hi0 hz0 hz1 hz2 rfl (by omega) v l.length (l.map Value.bool) hs hown ad m.length c (m.map Value.bool) hx (by simp) ?_ ?_ (by unfold maxLen; omega) (by omega) hbase ?_
    · intro j u hj
      have hjl : j < m.length := by
        have := (List.getElem?_eq_some_iff.1 hj).1
        simpa using this
      obtain ⟨ad', e, _, hc⟩ := hr j hjl
      cases e
      rw [hc]
      simp [hjl] at hj
      rw [← hj]
      simp [List.getD_eq_getElem?_getD, hjl]
    · intro u hu; obtain ⟨x, _, rfl⟩ := List.mem_map.1 hu; rfl
    · intro v' w' hown' hg _
      refine h v' w' ?_ ((Below.refl base w).grown hg hbase (fun k hk => ((World.ownsRow.lt hown) k hk).1))
      unfold OwnB
      simpa using hown'
theorem stepBs {w : World} {ops : Array Oper} {o : Oper} {a : Act} {K : Act → World → Prop} {Q : Exit → Act → World → Prop} {E : Prop} (hgd : o.guard = none) (s x : Operand)
    (ho : o.op = .call { callee := .builtin .append, args := #[s, x], argTypes := #[28, 28] })
    (base : Nat) (v : Value) (l : List Bool) (hs : a.eval s = v) (hown : OwnB w base v l) (A : Option Addr) (c : Nat) (m : List Bool) (hx : a.eval x = .slice A m.length c) (hr : RB w w.heap.size A m) (hbase : base ≤ w.heap.size)
    (hn : l.length + m.length ≤ 3000000000) (hA : A = none → c = 0)
    (h : ∀ v' w', OwnB w' base v' (l ++ m) → Below base w w' → K (a.put o.dst v') w') : if Region.wanted o (yielded ops a.tmps) = true then Oper.wp Try.prog o a w K Q else E := by
  have hw : Region.wanted o (yielded ops a.tmps) = true := by simp [Region.wanted, hgd]
  rw [if_pos hw]
  exact wpBso s x ho base v l hs hown A c m hx hr hbase hn hA h

theorem wpIso {w : World} {o : Oper} {a : Act} {K : Act → World → Prop} {Q : Exit → Act → World → Prop} (s x : Operand)
    (ho : o.op = .call { callee := .builtin .append, args := #[s, x], argTypes := #[24, 24] })
    (base : Nat) (v : Value) (l : List Int) (hs : a.eval s = v) (hown : OwnI w base v l) (A : Option Addr) (c : Nat) (m : List Int) (hx : a.eval x = .slice A m.length c) (hr : RI w w.heap.size A m) (hbase : base ≤ w.heap.size)
    (hn : l.length + m.length ≤ 3000000000) (hA : A = none → c = 0)
    (h : ∀ v' w', OwnI w' base v' (l ++ m) → Below base w w' → K (a.put o.dst v') w') : o.wp Try.prog a w K Q := by
  obtain ⟨i0, hi0, hz0, hz1, hz2⟩ := info_parts int_info
  cases A with
  | none =>
    have h0 : m = [] := by
      cases m with
      | nil => rfl
      | cons x l => obtain ⟨ad, e, _⟩ := hr 0 (by simp); cases e
    subst h0
    obtain rfl := hA rfl
    have hrun := run_append_owned_none (P := Try.prog) (w := w) base 24 o.type 3 i0 1 Try.underlying24 hi0 v l.length (l.map (Value.int .i64)) hown
    have hx' : a.eval x = .slice none 0 0 := hx
    unfold Oper.wp
    simp [execOp, ho, resolve, invoke, builtin, hs, hx', hrun, Result.andThen]
    exact h v w (by simpa using hown) (Below.refl _ _)
  | some ad =>
    refine wp_append_own w s x 24 ho base 3 i0 (.int .i64 0) 1 8 Try.underlying24 hi0 hz0 hz1 hz2 rfl (by omega) v l.length (l.map (Value.int .i64)) hs hown ad m.length c (m.map (Value.int .i64)) hx (by simp) ?_ ?_ (by unfold maxLen; omega) (by omega) hbase ?_
    · intro j u hj
      have hjl : j < m.length := by
        have := (List.getElem?_eq_some_iff.1 hj).1
        simpa using this
      obtain ⟨ad', e, _, hc⟩ := hr j hjl
      cases e
      rw [hc]
      simp [hjl] at hj
      rw [← hj]
      simp [List.getD_eq_getElem?_getD, hjl]
    · intro u hu; obtain ⟨x, _, rfl⟩ := List.mem_map.1 hu; rfl
    · intro v' w' hown' hg _
      refine h v' w' ?_ ((Below.refl base w).grown hg hbase (fun k hk => ((World.ownsRow.lt hown) k hk).1))
      unfold OwnI
      simpa using hown'
theorem stepIs {w : World} {ops : Array Oper} {o : Oper} {a : Act} {K : Act → World → Prop} {Q : Exit → Act → World → Prop} {E : Prop} (hgd : o.guard = none) (s x : Operand)
    (ho : o.op = .call { callee := .builtin .append, args := #[s, x], argTypes := #[24, 24] })
    (base : Nat) (v : Value) (l : List Int) (hs : a.eval s = v) (hown : OwnI w base v l) (A : Option Addr) (c : Nat) (m : List Int) (hx : a.eval x = .slice A m.length c) (hr : RI w w.heap.size A m) (hbase : base ≤ w.heap.size)
    (hn : l.length + m.length ≤ 3000000000) (hA : A = none → c = 0)
    (h : ∀ v' w', OwnI w' base v' (l ++ m) → Below base w w' → K (a.put o.dst v') w') : if Region.wanted o (yielded ops a.tmps) = true then Oper.wp Try.prog o a w K Q else E := by
  have hw : Region.wanted o (yielded ops a.tmps) = true := by simp [Region.wanted, hgd]
  rw [if_pos hw]
  exact wpIso s x ho base v l hs hown A c m hx hr hbase hn hA h
end Go.Proofs.Ytkdocjcpehmljaa
/- One statement's walk: SimTaken. -/
namespace Go.Proofs.Ytkdocjcpehmljaa
open Go.RowKit
set_option maxRecDepth 100000 in
set_option maxHeartbeats 8000000 in
theorem taken_any (I : Int) (AL AG AO AB AC AN : Option Addr) (cL cG cO cB cC cN : Nat) (L G : List Pr) (O D C : List Int) (N : List Nm) (AS AI : Option Addr) (cs ci : Nat) (st inp : List Bool) (w : World) (hA : RA w w.heap.size AL AG AO AB AC AN L G O D C N) (lO : O.length ≤ maxLen) (lD : D.length ≤ maxLen) (lC : C.length ≤ maxLen) (lN : N.length ≤ maxLen)
    (hS : RB w w.heap.size AS st) (hI : RB w w.heap.size AI inp) (nS : st.length ≤ cs) (mS : cs ≤ maxLen) (zS : AS = none → cs = 0) (nI : inp.length ≤ ci) (mI : ci ≤ maxLen) (zI : AI = none → ci = 0) (zO : AO = none → cO = 0) (zB : AB = none → cB = 0) (zC : AC = none → cC = 0) :
    Calls Try.prog 7 #[.agg #[.int .i64 I, .slice AL L.length cL, .slice AG G.length cG, .slice AO O.length cO, .slice AB D.length cB, .slice AC C.length cC, .slice AN N.length cN], .slice AS st.length cs, .slice AI inp.length ci] w (RetV w (.bool true)) := by
  have hb := bal (Below.refl w.heap.size w) (.cells #[.int .i64 I, .slice AL L.length cL, .slice AG G.length cG, .slice AO O.length cO, .slice AB D.length cB, .slice AC C.length cC, .slice AN N.length cN] 27)
  have hk := KA.new w I AL AG AO AB AC AN cL cG cO cB cC cN L G O D C N
  have hs0 : (w.alloc (.cells #[.int .i64 I, .slice AL L.length cL, .slice AG G.length cG, .slice AO O.length cO, .slice AB D.length cB, .slice AC C.length cC, .slice AN N.length cN] 27)).heap.size = w.heap.size + 1 := by simp
  have HS0 := Lib.hid hs0
  have CSH := shown_any (w.alloc (.cells #[.int .i64 I, .slice AL L.length cL, .slice AG G.length cG, .slice AO O.length cO, .slice AB D.length cB, .slice AC C.length cC, .slice AN N.length cN] 27))
  have HA := Lib.hid (hA.nx hb)
  have HB := Lib.hid hb
  have HK := Lib.hid hk
  have HS := Lib.hid (hS.nx hb)
  have HI := Lib.hid (hI.nx hb)
  have HNI := Lib.hid (And.intro nI (And.intro mI zI))
  have CM := May_any I AL AG AO AB AC AN cL cG cO cB cC cN L G O D C N
  have HCM := Lib.hid (fun wx h => CM wx h lO lD lC lN)
  have HZ := Lib.hid (And.intro zO (And.intro zB zC))
  have ls : st.length ≤ 9223372036854775807 := by unfold maxLen at mS; omega
  have li : inp.length ≤ 9223372036854775807 := by unfold maxLen at mI; omega
  clear hA hb hk hs0 hS hI CM lO lD lC lN nS mS nI mI zS zI zO zB zC
  go_enter Try.func7, Try.ntmps7
  go_wp2_with fail
  refine CSH.mono ?_; rintro e u1 ⟨rfl, hu1⟩
  generalize w.alloc (.cells #[.int .i64 I, .slice AL L.length cL, .slice AG G.length cG, .slice AO O.length cO, .slice AB D.length cB, .slice AC C.length cC, .slice AN N.length cN] 27) = w0 at *
  obtain ⟨k0, k1, k2, k3, k4, k5, k6⟩ := HK.out.nx hu1 (by have := HS0.out; omega)
  have HU1 := Lib.hid hu1
  have C1 := HCM.out u1 (HA.out.nx hu1)
  clear CSH hu1 HCM
  go_wp2_with fail
  refine C1.mono ?_; rintro e u2 ⟨bm, rfl, pm, hu2⟩
  have hU2 := bnx HU1.out hu2
  have HU2 := Lib.hid hU2
  have HF2 := Lib.hid (HB.out.trans (hU2.mono HB.out.size))
  obtain ⟨g0, g1, g2, g3, g4, g5, g6⟩ := HK.out.nx hU2 (by have := HS0.out; omega)
  have HP := Lib.hid pm
  clear C1 hu2 hU2 pm k0 k1 k2 k3 k4 k5 k6
  cases bm
  · clear g0 g1 g2 g3 g4 g5 g6
    go_wp2
    go_ret
    exact ⟨rfl, HF2.out⟩
  have hMd := HP.out (by simp)
  have HM := Lib.hid hMd.1
  have x0 : L.length ≤ 40 := hMd.2.2.1
  have HX := Lib.hid (show G.length ≤ 40 ∧ O.length ≤ 40 ∧ D.length ≤ 40 ∧ C.length ≤ 40 from ⟨hMd.2.2.2.1, hMd.2.2.2.2.1, hMd.2.2.2.2.2.1, hMd.2.2.2.2.2.2.1⟩)
  clear HP hMd
  by_cases z1 : 60 < st.length
  · have d1 : decide (60 < st.length) = true := decide_eq_true z1
    have d2 : decide ((60 : Int) < (st.length : Int)) = true := decide_eq_true (by omega)
    clear g0 g1 g2 g3 g4 g5 g6
    go_wp2
    go_ret
    exact ⟨rfl, HF2.out⟩
  have d1 : decide (60 < st.length) = false := decide_eq_false z1
  have d2 : decide ((60 : Int) < (st.length : Int)) = false := decide_eq_false (by omega)
  by_cases z2 : 60 < inp.length
  · have d3 : decide (60 < inp.length) = true := decide_eq_true z2
    have d4 : decide ((60 : Int) < (inp.length : Int)) = true := decide_eq_true (by omega)
    clear g0 g1 g2 g3 g4 g5 g6
    go_wp2
    go_ret
    exact ⟨rfl, HF2.out⟩
  have d3 : decide (60 < inp.length) = false := decide_eq_false z2
  have d4 : decide ((60 : Int) < (inp.length : Int)) = false := decide_eq_false (by omega)
  have CV := Values_any I AL AG AO AB AC AN cL cG cO cB cC cN L G O D C N AS AI cs ci st inp u2 (HA.out.nx HU2.out) (HS.out.nx HU2.out) (HI.out.nx HU2.out) HM.out
  have HCS : Hid (∀ wx, Below w0.heap.size w0 wx → Calls Try.prog 15 #[.agg #[.int .i64 I, .slice AL L.length cL, .slice AG G.length cG, .slice AO O.length cO, .slice AB D.length cB, .slice AC C.length cC, .slice AN N.length cN], .slice AS st.length cs, .slice AI inp.length ci] wx (RetT wx (orNil (fit I L st inp) (nextL L G st inp)) (orNil (fit I L st inp) (tellL O G st inp)) (orNil (fit I L st inp) (tellL D G st inp)) (orNil (fit I L st inp) (tellL C G st inp)) (errX (fit I L st inp)))) := Lib.hid fun wx hx => Step_any I AL AG AO AB AC AN cL cG cO cB cC cN L G O D C N AS AI cs ci st inp wx (HA.out.nx hx) (HS.out.nx hx) (HI.out.nx hx) HM.out
  have hvl := valsOf_length st inp G
  have hVB : (valsOf st inp G).length ≤ 1000 := by have := HX.out; omega
  unfold nextL tellL at HCS
  generalize valsOf st inp G = V at *
  cases hf : fit I L st inp
  · rw [hf] at CV HCS
    simp only [orNil, errX, Bool.false_eq_true, if_false] at CV HCS
    clear hvl hf hVB
    go_wp2_with fail
    refine CV.mono ?_; rintro e u3 ⟨A3, c3, rfl, _, _, _, _, hu3⟩
    have HU3 := Lib.hid (bnx HU2.out hu3)
    obtain ⟨k0, k1, k2, k3, k4, k5, k6⟩ := HK.out.nx HU3.out (by have := HS0.out; omega)
    have c15 := HCS.out u3 HU3.out
    clear CV hu3 g0 g1 g2 g3 g4 g5 g6
    go_wp2_with fail
    refine c15.mono ?_; rintro e u4 ⟨vn, vo, vd, vc, rfl, ⟨An, cn, rfl, _⟩, ⟨Ao, co, rfl, _⟩, ⟨Ad, cd, rfl, _⟩, ⟨Ac, cc, rfl, _⟩, hu4⟩
    have hx4 := bal (bnx HU3.out hu4) (.cells #[.slice Ao 0 co, .slice Ad 0 cd, .slice Ac 0 cc] 40)
    have HFIN := Lib.hid (HB.out.trans (hx4.mono HB.out.size))
    clear c15 hu4 hx4 k0 k1 k2 k3 k4 k5 k6 HCS
    go_wp2
    go_ret
    exact ⟨rfl, HFIN.out⟩
  rw [hf] at CV HCS
  simp only [orNil, errX, if_true] at CV HCS
  have HVB := Lib.hid hVB
  clear hvl hf hVB
  have hTN : Hid ((L.map fun p => lt V p.1).length = L.length ∧ (O.map (lt V)).length = O.length ∧ (D.map (lt V)).length = D.length ∧ (C.map (lt V)).length = C.length) := Lib.hid (by simp)
  have hGN : Hid (∀ j, j < L.length → (L.map fun p => lt V p.1).getD j false = lt V (L.getD j (0, 0)).1) := Lib.hid fun j hj => by simp [List.getD_eq_getElem?_getD, hj]
  have hGT : Hid (O.map (lt V) ++ D.map (lt V) ++ C.map (lt V) = (O ++ D ++ C).map (lt V)) := Lib.hid (by show _ = _; simp)
  have hLits : Hid (Lits (O ++ D ++ C)) := Lib.hid (by
    intro x hx
    have := HM.out
    simp only [List.mem_append] at hx
    rcases hx with (h | h) | h
    · exact this.lo x h
    · exact this.ld x h
    · exact this.lc x h)
  have hLL : Hid (∀ j, j < L.length → 0 ≤ (L.getD j (0, 0)).1 ∧ (L.getD j (0, 0)).1 ≤ 100000000) := Lib.hid fun j hj => HM.out.ll.at j hj
  generalize (L.map fun p => lt V p.1) = TN at *
  generalize O.map (lt V) = TO at *
  generalize D.map (lt V) = TD at *
  generalize C.map (lt V) = TC at *
  have d5 : ((TN.length : Int) != (L.length : Int)) = false := by rw [hTN.out.1]; simp
  have d6 : ((TO.length : Int) != (O.length : Int)) = false := by rw [hTN.out.2.1]; simp
  have d7 : ((TD.length : Int) != (D.length : Int)) = false := by rw [hTN.out.2.2.1]; simp
  have d8 : ((TC.length : Int) != (C.length : Int)) = false := by rw [hTN.out.2.2.2]; simp
  have hTNL : TN.length ≤ 40 := by have := hTN.out; omega
  go_wp2_with fail
  refine CV.mono ?_; rintro e u3 ⟨A3, c3, rfl, r3, _, n3, m3, hu3⟩
  have HU3 := Lib.hid (bnx HU2.out hu3)
  obtain ⟨k0, k1, k2, k3, k4, k5, k6⟩ := HK.out.nx HU3.out (by have := HS0.out; omega)
  have c15 := HCS.out u3 HU3.out
  have R3 := Lib.hid r3
  clear CV hu3 g0 g1 g2 g3 g4 g5 g6 HCS r3 n3 m3
  go_wp2_with fail
  refine c15.mono ?_; rintro e u4 ⟨vn, vo, vd, vc, rfl, ⟨An, cn, rfl, rn, zn, nn, mn⟩, ⟨Ao, co, rfl, ro, zo, no, mo⟩, ⟨Ad, cd, rfl, rd, zd, nd, md⟩, ⟨Ac, cc, rfl, rc, zc, nc, mc⟩, hu4⟩
  have HU4 := Lib.hid (bnx HU3.out hu4)
  have R4 := Lib.hid (And.intro rn (And.intro ro (And.intro rd rc)))
  have Z4 := Lib.hid (And.intro zo (And.intro zd zc))
  have R34 := Lib.hid (R3.out.nx hu4)
  have hx4 := bal (Below.refl u4.heap.size u4) (.cells #[.slice Ao TO.length co, .slice Ad TD.length cd, .slice Ac TC.length cc] 40)
  have ht4 := T3.new u4 (.slice Ao TO.length co) (.slice Ad TD.length cd) (.slice Ac TC.length cc) 40
  have hs4 : (u4.alloc (.cells #[.slice Ao TO.length co, .slice Ad TD.length cd, .slice Ac TC.length cc] 40)).heap.size = u4.heap.size + 1 := by simp
  have HX4 := Lib.hid (bnx HU4.out hx4)
  have HX44 := Lib.hid hx4
  have HT4 := Lib.hid ht4
  have HS4 := Lib.hid hs4
  obtain ⟨g0, g1, g2, g3, g4, g5, g6⟩ := HK.out.nx HX4.out (by have := HS0.out; omega)
  obtain ⟨e0, e1, e2, e3, e4, e5⟩ := ht4
  clear c15 hu4 hx4 hs4 k0 k1 k2 k3 k4 k5 k6 rn zn nn mn ro zo no mo rd zd nd md rc zc nc mc R3
  go_upto_region 10 with fail
  generalize (u4.alloc (.cells #[.slice Ao TO.length co, .slice Ad TD.length cd, .slice Ac TC.length cc] 40)) = x4 at *
  obtain ⟨b4, hb4⟩ : ∃ b, u4.heap.size = b := ⟨_, rfl⟩
  have HN4 := Lib.hid (HX44.out)
  rw [hb4] at HT4 HS4 HX44 ⊢
  clear g0 g1 g2 g3 g4 g5 g6 e0 e1 e2 e3 e4 e5 d5 d6 d7 d8
  have RV := Lib.hid (R34.out.nx HN4.out)
  have RN := Lib.hid (R4.out.1.nx HN4.out)
  have RO := Lib.hid (R4.out.2.1.nx HN4.out)
  have RD := Lib.hid (R4.out.2.2.1.nx HN4.out)
  have RC := Lib.hid (R4.out.2.2.2.nx HN4.out)
  have HA4 := Lib.hid (HA.out.nx HX4.out)
  have HK4 := Lib.hid (HK.out.nx HX4.out (by have := HS0.out; omega))
  have HFX := Lib.hid (HB.out.trans (HX4.out.mono HB.out.size))
  have HBK : Hid (w.heap.size < x4.heap.size ∧ b4 < x4.heap.size) := Lib.hid (by have := HS0.out; have := HX4.out.size; have := HS4.out; omega)
  have HLT : Hid (∀ x : Int, 0 ≤ x → x ≤ 100000000 → ∀ wx, Below x4.heap.size x4 wx → Calls Try.prog 23 #[.slice A3 V.length c3, .int .i64 x] wx (RetS wx (.bool (lt V x)))) := Lib.hid fun x h0 h1 wx hx => Lit_any A3 c3 V x wx (RV.out.nx hx) (by have := HVB.out; unfold maxLen; omega) (by omega) (by omega)
  clear hb4 HN4 HX44 R34 R4 HX4 HU4 HU3 HU2 HU1 HF2 HS0 HB HK HA HS HI HNI HS4 HM
  go_wp2
  go_loopg [13] TN.length (fun g s wr => ∃ j : Nat, j + g = TN.length ∧ s = .int .i64 j ∧ Below x4.heap.size x4 wr)
  case atStart => exact ⟨0, by omega, rfl, Below.refl _ _⟩
  case round =>
    obtain ⟨j, hj, rfl, hbel⟩ := hrel
    cases gk with
    | zero =>
      have q1 : ¬ ((j : Int) < TN.length) := by omega
      have q2 : ¬ (j < TN.length) := by omega
      have HBEL := Lib.hid hbel
      have HBR := Lib.hid (hbel.size)
      have HKK : Hid (∀ wx, Below x4.heap.size x4 wx → wx.cell? ⟨w.heap.size, 3, none⟩ = some (.slice AO O.length cO) ∧ wx.cell? ⟨w.heap.size, 4, none⟩ = some (.slice AB D.length cB) ∧ wx.cell? ⟨w.heap.size, 5, none⟩ = some (.slice AC C.length cC)) := Lib.hid fun wx hx => ⟨(HK4.out.nx hx HBK.out.1).k3, (HK4.out.nx hx HBK.out.1).k4, (HK4.out.nx hx HBK.out.1).k5⟩
      have HTT : Hid (∀ wx, Below x4.heap.size x4 wx → wx.cell? ⟨b4, 0, none⟩ = some (.slice Ao TO.length co) ∧ wx.cell? ⟨b4, 1, none⟩ = some (.slice Ad TD.length cd) ∧ wx.cell? ⟨b4, 2, none⟩ = some (.slice Ac TC.length cc)) := Lib.hid fun wx hx => ⟨(HT4.out.nx hx HBK.out.2).c0, (HT4.out.nx hx HBK.out.2).c1, (HT4.out.nx hx HBK.out.2).c2⟩
      have HLN := Lib.hid (show O.length ≤ 1000 ∧ D.length ≤ 1000 ∧ C.length ≤ 1000 ∧ TO.length ≤ 1000 ∧ TD.length ≤ 1000 ∧ TC.length ≤ 1000 by have := HX.out; have := hTN.out; omega)
      have hb0 := (hbel.alloc hbel.size (.cells #[] 3)).drew
      have ho0 : OwnI (wr.alloc (.cells #[] 3)).drew wr.heap.size (.slice (some ⟨wr.heap.size, 0, none⟩) 0 0) [] := OwnI.old (World.ownsRow_made wr #[] 0 (Nat.le_refl _) (Nat.zero_le _) rfl) (Below.refl _ _).drew
      have K0 := HKK.out _ hbel.drew
      have K1 := HKK.out _ hb0
      have A0 := HA4.out.nx hb0
      have hz0 : wr.heap.size ≤ (wr.alloc (.cells #[] 3)).drew.heap.size := by simp
      clear HK4 hGN hLL RN hbel
      go_wp2_with fail
      go_region_held3 (fun w' => w'.cell? ⟨w.heap.size, 3, none⟩ = some (.slice AO O.length cO) ∧ w'.cell? ⟨w.heap.size, 4, none⟩ = some (.slice AB D.length cB) ∧ w'.cell? ⟨w.heap.size, 5, none⟩ = some (.slice AC C.length cC))
        (first | exact K0 | exact K1 | exact K2 | exact K3 | exact K4 | go_keep)
        (first
          | (refine stepIs rfl (.tmp 111) (.tmp 113) (by rfl) wr.heap.size _ [] (by rfl) ho0 AO cO O (by rfl) A0.o hz0 (by have := HLN.out; simp; omega) HZ.out.1 ?_; intro v1 w1 ho1 hb1; have U1 := hb0.trans (hb1.mono HBR.out); have K2 := HKK.out _ U1; have A1 := HA4.out.nx U1; have hz1 := Nat.le_trans hz0 hb1.size)
          | (refine stepIs rfl (.tmp 114) (.tmp 116) (by rfl) wr.heap.size _ ([] ++ O) (by rfl) ho1 AB cB D (by rfl) A1.d hz1 (by have := HLN.out; simp; omega) HZ.out.2.1 ?_; intro v2 w2 ho2 hb2; have U2 := U1.trans (hb2.mono HBR.out); have K3 := HKK.out _ U2; have A2 := HA4.out.nx U2; have hz2 := Nat.le_trans hz1 hb2.size)
          | (refine stepIs rfl (.tmp 117) (.tmp 119) (by rfl) wr.heap.size _ ([] ++ O ++ D) (by rfl) ho2 AC cC C (by rfl) A2.c hz2 (by have := HLN.out; simp; omega) HZ.out.2.2 ?_; intro v3 w3 ho3 hb3; have U3 := U2.trans (hb3.mono HBR.out); have K4 := HKK.out _ U3))
      obtain ⟨LL, hLL⟩ : ∃ LL, O ++ D ++ C = LL := ⟨_, rfl⟩
      have ho3' : OwnI w3 wr.heap.size v3 LL := by rw [← hLL]; simpa using ho3
      rw [hLL] at hGT hLits
      have HLL2 := Lib.hid (show LL.length ≤ 3000 by rw [← hLL]; have := HLN.out; simp; omega)
      obtain ⟨AX, cX, eX, rX, _, _, _⟩ := OwnI.val ho3'
      subst eX
      have RX := Lib.hid rX
      have HU3 := Lib.hid U3
      have hb1' := (Below.refl w3.heap.size w3).alloc (Nat.le_refl _) (.cells #[] 4)
      have hb1x := (U3.alloc U3.size (.cells #[] 4)).drew
      have hB1 := hb1'.drew
      have HB1 := Lib.hid hB1
      have ho0b : OwnB (w3.alloc (.cells #[] 4)).drew w3.heap.size (.slice (some ⟨w3.heap.size, 0, none⟩) 0 0) [] := OwnB.old (World.ownsRow_made w3 #[] 0 (Nat.le_refl _) (Nat.zero_le _) rfl) (Below.refl _ _).drew
      have J0 := HTT.out _ U3.drew
      have J1 := HTT.out _ hb1x
      have S0 := RO.out.nx hb1x
      have hy0 : w3.heap.size ≤ (w3.alloc (.cells #[] 4)).drew.heap.size := by simp
      have HU3s := Lib.hid U3.size
      clear K0 K1 K2 K3 K4 ho0 ho1 ho2 ho3 ho3' hb1 hb2 hb3 A0 A1 A2 U1 U2 U3 hz0 hz1 hz2 hb0 HKK rX hLL hb1' hB1 HA4
      go_wp2_with fail
      go_region_held3 (fun w' => w'.cell? ⟨b4, 0, none⟩ = some (.slice Ao TO.length co) ∧ w'.cell? ⟨b4, 1, none⟩ = some (.slice Ad TD.length cd) ∧ w'.cell? ⟨b4, 2, none⟩ = some (.slice Ac TC.length cc))
        (first | exact J0 | exact J1 | exact J2 | exact J3 | exact J4 | go_keep)
        (first
          | (refine stepBs rfl (.tmp 121) (.tmp 123) (by rfl) w3.heap.size _ [] (by rfl) ho0b Ao co TO (by rfl) S0 hy0 (by have := HLN.out; simp; omega) Z4.out.1 ?_; intro v4 w4 ho4 hb4; have V4 := hb1x.trans (hb4.mono HU3s.out); have J2 := HTT.out _ V4; have S1 := RD.out.nx V4; have hy1 := Nat.le_trans hy0 hb4.size)
          | (refine stepBs rfl (.tmp 124) (.tmp 126) (by rfl) w3.heap.size _ ([] ++ TO) (by rfl) ho4 Ad cd TD (by rfl) S1 hy1 (by have := HLN.out; simp; omega) Z4.out.2.1 ?_; intro v5 w5 ho5 hb5; have V5 := V4.trans (hb5.mono HU3s.out); have J3 := HTT.out _ V5; have S2 := RC.out.nx V5; have hy2 := Nat.le_trans hy1 hb5.size)
          | (refine stepBs rfl (.tmp 127) (.tmp 129) (by rfl) w3.heap.size _ ([] ++ TO ++ TD) (by rfl) ho5 Ac cc TC (by rfl) S2 hy2 (by have := HLN.out; simp; omega) Z4.out.2.2 ?_; intro v6 w6 ho6 hb6; have V6 := V5.trans (hb6.mono HU3s.out); have J4 := HTT.out _ V6))
      have ho6' : OwnB w6 w3.heap.size v6 (LL.map (lt V)) := by have := hGT.out; rw [← this]; simpa using ho6
      have hlM : (LL.map (lt V)).length = LL.length := by simp
      obtain ⟨TT, hTT⟩ : ∃ TT, LL.map (lt V) = TT := ⟨_, rfl⟩
      have hGL : Hid (∀ j, j < LL.length → TT.getD j false = lt V (LL.getD j 0)) := Lib.hid fun j hj => by rw [← hTT]; simp [List.getD_eq_getElem?_getD, hj]
      rw [hTT] at ho6' hlM
      have HLM := Lib.hid hlM
      obtain ⟨AY, cY, eY, rY, _, _, _⟩ := OwnB.val ho6'
      subst eY
      have RY := Lib.hid rY
      have RX6 := Lib.hid (RX.out.nx (HB1.out.trans (hb4.trans (hb5.trans hb6))))
      have HV6 := Lib.hid V6
      have HF6 := Lib.hid (HFX.out.trans (V6.mono HFX.out.size))
      clear J0 J1 J2 J3 J4 ho0b ho4 ho5 ho6 ho6' hb4 hb5 hb6 S0 S1 S2 V4 V5 V6 hy0 hy1 hy2 hb1x HTT rY hTT hlM RX hGT HB1
      go_wp2
      go_loopg [16] LL.length (fun g s wq => ∃ j : Nat, j + g = LL.length ∧ s = .int .i64 j ∧ Below w6.heap.size w6 wq)
      case atStart => exact ⟨0, by omega, rfl, Below.refl _ _⟩
      case round =>
        obtain ⟨j2, hj2, rfl, hbel2⟩ := hrel
        cases gk with
        | zero =>
          have q3 : ¬ ((j2 : Int) < LL.length) := by omega
          have q4 : ¬ (j2 < LL.length) := by omega
          have HFE := Lib.hid (HF6.out.trans (hbel2.mono HF6.out.size))
          clear hbel2
          go_wp2
          go_ret
          exact ⟨rfl, HFE.out⟩
        | succ g2 =>
          have hjl : j2 < LL.length := by omega
          have hL3 : LL.length ≤ 3000 := HLL2.out
          have hjl' : (j2 : Int) < LL.length := by omega
          have hjT : j2 < TT.length := by have := HLM.out; omega
          have hjT' : (j2 : Int) < TT.length := by omega
          obtain ⟨ad1, rfl, _, hq1⟩ := (RY.out.nx hbel2) j2 hjT
          obtain ⟨ad2, rfl, _, hq2⟩ := (RX6.out.nx hbel2) j2 hjl
          rw [hGL.out j2 hjl] at hq1
          obtain ⟨t0, t1⟩ := hLits.out.at j2 hjl
          generalize LL.getD j2 0 = x at *
          have hD : ∀ n, Below w6.heap.size w6 (wr.drewN n) := fun n => hbel2.trans ((drw n).mono hbel2.size)
          have CA : Hid (∀ n, Calls Try.prog 23 #[.slice A3 V.length c3, .int .i64 x] (wr.drewN n) (RetS (wr.drewN n) (.bool (lt V x)))) := Lib.hid fun n => HLT.out x t0 t1 _ (HV6.out.trans ((hD n).mono HV6.out.size))
          have HD := Lib.hid hD
          clear hD t0 t1 hGL hLits HLT RV RO RD RC RY RX6 hbel2
          generalize lt V x = xa at *
          cases xa
          · go_wp2
            go_quiet (first | exact quietS (CA.out _))
            clear CA
            go_wp2
            go_roundg g2
            case measure => omega
            case rel => exact ⟨j2 + 1, by omega, by go_num, HD.out _⟩
          · go_wp2
            go_quiet (first | exact quietS (CA.out _))
            clear CA
            go_wp2
            go_roundg g2
            case measure => omega
            case rel => exact ⟨j2 + 1, by omega, by go_num, HD.out _⟩
    | succ g =>
      have hjl : j < TN.length := by omega
      have hjl' : (j : Int) < TN.length := by omega
      have hjL : j < L.length := by have := hTN.out.1; omega
      have hjL' : (j : Int) < L.length := by omega
      obtain ⟨ad1, rfl, _, hq1⟩ := (RN.out.nx hbel) j hjl
      obtain ⟨ad2, rfl, _, hq2, _⟩ := (HA4.out.nx hbel).l j hjL
      have hk1 := (HK4.out.nx hbel HBK.out.1).k1
      rw [hGN.out j hjL] at hq1
      obtain ⟨t0, t1⟩ := hLL.out j hjL
      generalize L.getD j (0, 0) = p at *
      obtain ⟨x, y⟩ := p
      simp only at hq1 hq2 t0 t1
      have hD : ∀ n, Below x4.heap.size x4 (wr.drewN n) := fun n => hbel.trans ((drw n).mono hbel.size)
      have CA : Hid (∀ n, Calls Try.prog 23 #[.slice A3 V.length c3, .int .i64 x] (wr.drewN n) (RetS (wr.drewN n) (.bool (lt V x)))) := Lib.hid fun n => HLT.out x t0 t1 _ (hD n)
      have HD := Lib.hid hD
      clear hD t0 t1 hLL hGN hGT hLits HLT HK4 HA4 RV RN RO RD RC hbel
      generalize lt V x = xa at *
      cases xa
      · go_wp2
        go_quiet (first | exact quietS (CA.out _))
        clear CA
        go_wp2
        go_roundg g
        case measure => omega
        case rel => exact ⟨j + 1, by omega, by go_num, HD.out _⟩
      · go_wp2
        go_quiet (first | exact quietS (CA.out _))
        clear CA
        go_wp2
        go_roundg g
        case measure => omega
        case rel => exact ⟨j + 1, by omega, by go_num, HD.out _⟩
end Go.Proofs.Ytkdocjcpehmljaa
