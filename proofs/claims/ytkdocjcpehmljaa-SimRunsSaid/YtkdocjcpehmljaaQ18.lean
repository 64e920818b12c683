/-
  The reference's run over the translated program.
-/
import Derived.Test.YtkdocjcpehmljaaProg
import Derived.WalkKit
import Derived.WalkSpells
import Derived.WalkLawsBesides
import Derived.Lib.Hide
import Derived.BigQuiet
import Derived.Deep.QuietTactic
import Derived.Deep.RegionWith
import Derived.Deep.RegionHeld3
import Derived.Test.YtkdocjcpehmljaaQ17
import Derived.Test.YtkdocjcpehmljaaQ04
import Derived.Deep.DeepCutAuto
set_option linter.unusedVariables false
namespace Go.Proofs.Ytkdocjcpehmljaa
open Go.RowKit
theorem OutR.one (w : World) (A : Option Addr) (c : Nat) (s : List Bool) (h : RB w w.heap.size A s) (hc : s.length ≤ c ∧ c ≤ maxLen ∧ (A = none → c = 0)) : OutR w.heap.size (.slice (some ⟨w.heap.size, 0, none⟩) 1 1) [s] (w.alloc (.cells #[.slice A s.length c] 28)) := by
  refine ⟨[.slice A s.length c], ?_, rfl, fun i hi => ?_⟩
  · have := World.ownsRow_lit (e := 28) (size := 1) (base := w.heap.size) w #[.slice A s.length c] 1 (Nat.le_refl _) (by simp [maxLen]) rfl
    simpa using this
  · have hi' : i = 0 := by simp at hi; omega
    subst hi'
    refine ⟨A, c, rfl, ⟨h.nx (bal (Below.refl _ _) _), fun ad e hp => ?_⟩, hc⟩
    obtain ⟨ad', e', hlt, _⟩ := h 0 hp
    have hp' : A = some ad := e
    rw [hp'] at e'
    cases e'
    simp [Value.ownBlock]
    omega
/-- What stands behind a step that went well. -/
def NxF (wr : World) (n : List Bool) (s t : Value) (wx : World) : Prop := ∃ An cn, s = .slice An n.length cn ∧ t = .int .i64 0 ∧ RB wx wx.heap.size An n ∧ (An = none → cn = 0) ∧ n.length ≤ cn ∧ cn ≤ maxLen ∧ (∀ ad, An = some ad → wr.heap.size ≤ ad.block) ∧ Below wr.heap.size wr wx
/-- .. and behind one that did not. -/
def NxB (wr : World) (t : Value) (wx : World) : Prop := t = .int .i64 7 ∧ Below wr.heap.size wr wx
theorem NxF.of {wr wx u : World} {n : List Bool} {An : Option Addr} {cn : Nat} (h : SB u (.slice An n.length cn) n) (hf : ∀ ad, An = some ad → wx.heap.size ≤ ad.block) (U : Below wr.heap.size wr u) (hs : wr.heap.size ≤ wx.heap.size) : NxF wr n (.slice An n.length cn) (.int .i64 0) u := by
  obtain ⟨A', c', e, r, z1, z2, z3⟩ := h
  simp only [Value.slice.injEq] at e
  obtain ⟨rfl, _, rfl⟩ := e
  exact ⟨An, cn, rfl, rfl, r, z1, z2, z3, fun ad e => Nat.le_trans hs (hf ad e), U⟩
theorem NxB.last {wr u : World} {t : Value} (h : NxB wr t u) (o : Obj) : NxB wr t (u.alloc o) := ⟨h.1, bnx h.2 (bal (Below.refl _ _) _)⟩
theorem NxB.put {wr u : World} {t : Value} {g : Nat} {v1 v2 v3 : Value} (h : NxB wr t u) (ht : T3 u g (.slice none 0 0) (.slice none 0 0) (.slice none 0 0)) (hg : wr.heap.size ≤ g) : NxB wr t (((u.setCell ⟨g, 0, none⟩ v1).setCell ⟨g, 1, none⟩ v2).setCell ⟨g, 2, none⟩ v3) := ⟨h.1, below_put3 h.2 hg v1 v2 v3⟩
theorem OutR.far {base b : Nat} {v : Value} {pre : List (List Bool)} {W : World} (h : OutR base v pre W) (hb : W.heap.size ≤ b) : v.ownBlock ≠ some b := by
  obtain ⟨vs, h1, _⟩ := h
  intro e
  have := (World.ownsRow.lt h1 b e).2
  omega
theorem NxF.put {wr u : World} {n : List Bool} {s t : Value} {g : Nat} {v1 v2 v3 : Value} (h : NxF wr n s t u) (ht : T3 u g (.slice none 0 0) (.slice none 0 0) (.slice none 0 0)) (hg : wr.heap.size ≤ g) : NxF wr n s t (((u.setCell ⟨g, 0, none⟩ v1).setCell ⟨g, 1, none⟩ v2).setCell ⟨g, 2, none⟩ v3) := by
  obtain ⟨An, cn, rfl, rfl, r, z1, z2, z3, f, b⟩ := h
  obtain ⟨A', c', e, r', z'⟩ := SB.put3 (⟨An, cn, rfl, r, z1, z2, z3⟩ : SB u (.slice An n.length cn) n) ht v1 v2 v3
  simp only [Value.slice.injEq] at e
  obtain ⟨rfl, _, rfl⟩ := e
  exact ⟨An, cn, rfl, rfl, r', z1, z2, z3, f, below_put3 b hg v1 v2 v3⟩
theorem NxF.last {wr u : World} {n : List Bool} {s t : Value} (h : NxF wr n s t u) (o : Obj) : NxF wr n s t (u.alloc o) := by
  obtain ⟨An, cn, rfl, rfl, r, z1, z2, z3, f, b⟩ := h
  exact ⟨An, cn, rfl, rfl, r.nx (bal (Below.refl _ _) _), z1, z2, z3, f, bnx b (bal (Below.refl _ _) _)⟩
def HoldP (P : Prop) : Prop := P
theorem holdIt {P : Prop} (h : HoldP P) : P := h
set_option maxRecDepth 100000 in
set_option maxHeartbeats 4000000 in
theorem refRun_no (I : Int) (AL AG AO AB AC AN : Option Addr) (cL cG cO cB cC cN : Nat) (L G : List Pr) (O D C : List Int) (N : List Nm) (AS AI : Option Addr) (cs ci : Nat) (st : List Bool) (ins : List (List Bool)) (w : World) (h : ¬ (st.length = L.length)) :
    Calls Try.prog 20 #[.agg #[.int .i64 I, .slice AL L.length cL, .slice AG G.length cG, .slice AO O.length cO, .slice AB D.length cB, .slice AC C.length cC, .slice AN N.length cN], .slice AS st.length cs, .slice AI ins.length ci] w (RetRR w [] 7) := by
  have C1 := refStart_no I AL AG AO AB AC AN cL cG cO cB cC cN L G O D C N AS cs st (w.alloc (.cells #[.int .i64 I, .slice AL L.length cL, .slice AG G.length cG, .slice AO O.length cO, .slice AB D.length cB, .slice AC C.length cC, .slice AN N.length cN] 27)) h
  have hb := bal (Below.refl w.heap.size w) (.cells #[.int .i64 I, .slice AL L.length cL, .slice AG G.length cG, .slice AO O.length cO, .slice AB D.length cB, .slice AC C.length cC, .slice AN N.length cN] 27)
  go_enter Try.func20, Try.ntmps20
  go_wp2_with fail
  refine C1.mono ?_; rintro e w1 ⟨A1, c1, rfl, _, _, _, _, hb1⟩
  have hB := hb.trans (hb1.mono hb.size)
  clear C1 hb hb1
  go_wp2
  go_ret2
  exact ⟨none, 0, rfl, RR.nil _ _ _, fun _ => rfl, by simp, by simp [maxLen], hB⟩
set_option maxRecDepth 100000 in
set_option maxHeartbeats 8000000 in
theorem refRun_yes (I : Int) (AL AG AO AB AC AN : Option Addr) (cL cG cO cB cC cN : Nat) (L G : List Pr) (O D C : List Int) (N : List Nm) (AS AI : Option Addr) (cs ci : Nat) (st : List Bool) (ins : List (List Bool)) (w : World) (hA : RA w w.heap.size AL AG AO AB AC AN L G O D C N) (hS : RB w w.heap.size AS st) (hR : RR w w.heap.size AI ins) (hM : Md I L G O D C) (hn : ins.length ≤ 1000000) (h : st.length = L.length) :
    Calls Try.prog 20 #[.agg #[.int .i64 I, .slice AL L.length cL, .slice AG G.length cG, .slice AO O.length cO, .slice AB D.length cB, .slice AC C.length cC, .slice AN N.length cN], .slice AS st.length cs, .slice AI ins.length ci] w (RetRR w (orNil (!badR I ins) (runL L G (startL L st) ins)) (errX (!badR I ins))) := by
  have hs0 : (startL L st).length = L.length := by rw [startL_len L st h]; exact h
  have hb := bal (Below.refl w.heap.size w) (.cells #[.int .i64 I, .slice AL L.length cL, .slice AG G.length cG, .slice AO O.length cO, .slice AB D.length cB, .slice AC C.length cC, .slice AN N.length cN] 27)
  have C1 := refStart_yes I AL AG AO AB AC AN cL cG cO cB cC cN L G O D C N AS cs st (w.alloc (.cells #[.int .i64 I, .slice AL L.length cL, .slice AG G.length cG, .slice AO O.length cO, .slice AB D.length cB, .slice AC C.length cC, .slice AN N.length cN] 27)) (hA.l.nx hb) (hS.nx hb) hM.nl h
  have hk := KA.new w I AL AG AO AB AC AN cL cG cO cB cC cN L G O D C N
  have hs : (w.alloc (.cells #[.int .i64 I, .slice AL L.length cL, .slice AG G.length cG, .slice AO O.length cO, .slice AB D.length cB, .slice AC C.length cC, .slice AN N.length cN] 27)).heap.size = w.heap.size + 1 := by simp
  obtain ⟨s0, hs0e⟩ : ∃ s, startL L st = s := ⟨_, rfl⟩
  rw [hs0e] at C1 hs0 ⊢
  obtain ⟨bb, hbb⟩ : ∃ b, badR I ins = b := ⟨_, rfl⟩
  rw [hbb]
  have HBB := Lib.hid hbb
  have HM := Lib.hid hM
  have HS0 := Lib.hid hs0
  have HA := Lib.hid (hA.nx hb)
  have HR := Lib.hid (hR.nx hb)
  have HB := Lib.hid hb
  have HK := Lib.hid hk
  have HS := Lib.hid hs
  clear hA hS hM hR hb hk hs h hs0 hs0e hbb
  go_enter Try.func20, Try.ntmps20
  go_wp2_with fail
  refine C1.mono ?_; rintro e w1 ⟨AF, cf, rfl, rF, zF, nF, mF, hb1⟩
  generalize w.alloc (.cells #[.int .i64 I, .slice AL L.length cL, .slice AG G.length cG, .slice AO O.length cO, .slice AB D.length cB, .slice AC C.length cC, .slice AN N.length cN] 27) = w0 at *
  have ho1 := OutR.one w1 AF cf s0 rF ⟨nF, mF, zF⟩
  have rF1 := rF.nx (bal (Below.refl w1.heap.size w1) (.cells #[.slice AF s0.length cf] 28))
  have HO1 := Lib.hid ho1
  have HF1 := Lib.hid rF1
  have HB1 := Lib.hid hb1
  have HZF := Lib.hid (And.intro nF (And.intro mF zF))
  clear C1 rF zF nF mF hb1 ho1 rF1
  go_wp2
  go_loopg [8, 10, 11] ins.length (fun g s8 s10 s11 wr => ∃ (j : Nat) (A : Option Addr) (c : Nat), j + g = ins.length ∧ s11 = .int .i64 j ∧ s8 = .slice A (stAt L G s0 ins j).length c ∧ RB wr wr.heap.size A (stAt L G s0 ins j) ∧ ((stAt L G s0 ins j).length ≤ c ∧ c ≤ maxLen ∧ (A = none → c = 0)) ∧ OutR w1.heap.size s10 ((List.range (j + 1)).map (stAt L G s0 ins)) wr ∧ Below w1.heap.size w1 wr ∧ ∀ i, i < j → ((ins.getD i []).length : Int) = I)
  case atStart => exact ⟨0, AF, cf, by omega, rfl, rfl, HF1.out, HZF.out, HO1.out, bal (Below.refl _ _) _, fun i hi => absurd hi (by omega)⟩
  case round =>
    obtain ⟨j, A, c, hj, rfl, rfl, hst, hz, hout, hbel, hgood⟩ := hrel
    cases gk with
    | zero =>
      have q1 : ¬ ((j : Int) < ins.length) := by omega
      have q2 : ¬ (j < ins.length) := by omega
      obtain rfl : bb = false := by
        rw [← HBB.out]
        unfold badR
        rw [List.any_eq_false]
        intro r hr
        obtain ⟨i, hi, e⟩ := List.getElem_of_mem hr
        have := hgood i (by omega)
        simp [List.getD_eq_getElem?_getD, hi, e] at this
        simp [this]
      have e0 : (List.range (j + 1)).map (stAt L G s0 ins) = runL L G s0 ins := by unfold runL; rw [show j = ins.length by omega]
      rw [e0] at hout
      have HFIN := Lib.hid (HB.out.trans ((bnx HB1.out hbel).mono HB.out.size))
      clear e0 hst hz hbel hgood
      generalize runL L G s0 ins = T at *
      obtain ⟨A', c', rfl, r1, z1, n1, m1⟩ := hout.rr
      simp only [Bool.not_false, orNil, errX, if_true]
      clear hout
      go_wp2
      go_ret2
      exact ⟨A', c', rfl, r1, z1, n1, m1, HFIN.out⟩
    | succ g =>
      have hjl : j < ins.length := by omega
      have hjl' : (j : Int) < ins.length := by omega
      have hB0 := bnx HB1.out hbel
      obtain ⟨ad, A', c', rfl, hab, hcr, hrr, hz1, hz2, hz3⟩ := (HR.out.nx hB0) j hjl
      obtain ⟨r, hr⟩ : ∃ r, ins.getD j [] = r := ⟨_, rfl⟩
      have hsl : (stAt L G s0 ins j).length = L.length := stAt_len L G s0 ins HS0.out j
      have hsn : stAt L G s0 ins (j + 1) = nextL L G (stAt L G s0 ins j) r := by rw [← hr]; rfl
      have hrn := range_next (stAt L G s0 ins) (j + 1)
      rw [hr] at hcr hrr hz1
      have HKK : Hid (∀ wx, Below wr.heap.size wr wx → wx.cell? ⟨w.heap.size, 0, none⟩ = some (.int .i64 I) ∧ wx.cell? ⟨w.heap.size, 1, none⟩ = some (.slice AL L.length cL) ∧ wx.cell? ⟨w.heap.size, 2, none⟩ = some (.slice AG G.length cG) ∧ wx.cell? ⟨w.heap.size, 3, none⟩ = some (.slice AO O.length cO) ∧ wx.cell? ⟨w.heap.size, 4, none⟩ = some (.slice AB D.length cB) ∧ wx.cell? ⟨w.heap.size, 5, none⟩ = some (.slice AC C.length cC) ∧ wx.cell? ⟨w.heap.size, 6, none⟩ = some (.slice AN N.length cN) ∧ wx.cell? (ad.add j) = some (.slice A' r.length c')) := Lib.hid fun wx hx => by
        have q := HK.out.nx (bnx hB0 hx) (by have := HS.out; omega)
        exact ⟨q.k0, q.k1, q.k2, q.k3, q.k4, q.k5, q.k6, (hx.cell (by rw [block_add]; exact hab)).trans hcr⟩
      have HBEL := Lib.hid hbel
      have HOUT := Lib.hid hout
      have HGOOD := Lib.hid hgood
      have hk0 := (HKK.out wr (Below.refl _ _))
      by_cases hrI : (r.length : Int) = I
      · have CF : Hid (∀ wx, Below wr.heap.size wr wx → Calls Try.prog 16 #[.agg #[.int .i64 I, .slice AL L.length cL, .slice AG G.length cG, .slice AO O.length cO, .slice AB D.length cB, .slice AC C.length cC, .slice AN N.length cN], .slice A (stAt L G s0 ins j).length c, .slice A' r.length c'] wx (RetTF wx (nextL L G (stAt L G s0 ins j) r) (tellL O G (stAt L G s0 ins j) r) (tellL D G (stAt L G s0 ins j) r) (tellL C G (stAt L G s0 ins j) r) 0)) := Lib.hid fun wx hx => refStep_fresh I AL AG AO AB AC AN cL cG cO cB cC cN L G O D C N A A' c c' (stAt L G s0 ins j) r wx (HA.out.nx (bnx hB0 hx)) (hst.nx hx) (hrr.nx hx) hz.2.2 hz3 HM.out hsl hrI
        rw [hsn] at hrn
        have HRN := Lib.hid hrn
        have HSN := Lib.hid hsn
        have HHR := Lib.hid (show ((ins.getD j []).length : Int) = I by rw [hr]; exact hrI)
        clear hk0 hrI hst hrr hsl hbel hout hgood hz hcr hab hrn hsn hB0
        generalize nextL L G (stAt L G s0 ins j) r = TN at *
        generalize tellL O G (stAt L G s0 ins j) r = TO at *
        generalize tellL D G (stAt L G s0 ins j) r = TD at *
        generalize tellL C G (stAt L G s0 ins j) r = TC at *
        go_upto_region 8 with fail
        go_cut [12, 14] (fun s12 s14 wx => NxF wr TN s12 s14 wx)
        case first =>
          have hU := (Below.refl wr.heap.size wr).drew
          have hV := hU.alloc hU.size (.cells #[.slice none 0 0, .slice none 0 0, .slice none 0 0] 40)
          have K0 := HKK.out _ hU
          have K0a := HKK.out _ hV
          have t0 : T3 (wr.drew.alloc (.cells #[.slice none 0 0, .slice none 0 0, .slice none 0 0] 40)) wr.heap.size (.slice none 0 0) (.slice none 0 0) (.slice none 0 0) := T3.new wr.drew _ _ _ 40
          have l0 : wr.heap.size < (wr.drew.alloc (.cells #[.slice none 0 0, .slice none 0 0, .slice none 0 0] 40)).heap.size := by simp
          go_region_held3 (fun w' => w'.cell? ⟨w.heap.size, 0, none⟩ = some (.int .i64 I) ∧ w'.cell? ⟨w.heap.size, 1, none⟩ = some (.slice AL L.length cL) ∧ w'.cell? ⟨w.heap.size, 2, none⟩ = some (.slice AG G.length cG) ∧ w'.cell? ⟨w.heap.size, 3, none⟩ = some (.slice AO O.length cO) ∧ w'.cell? ⟨w.heap.size, 4, none⟩ = some (.slice AB D.length cB) ∧ w'.cell? ⟨w.heap.size, 5, none⟩ = some (.slice AC C.length cC) ∧ w'.cell? ⟨w.heap.size, 6, none⟩ = some (.slice AN N.length cN) ∧ w'.cell? (ad.add j) = some (.slice A' r.length c'))
            (first | exact K0 | exact K0a | exact K1 | exact K1a | exact K1c | exact K2 | go_keep)
            (first
              | (go_at_call 16; ((with_reducible refine (CF.out _ hU).mono ?_); rintro e u1 ⟨An, cn, vo, vd, vc, rfl, hfr, hs1, ⟨Ao, co, rfl, _⟩, ⟨Ad, cd, rfl, _⟩, ⟨Ac, cc, rfl, _⟩, hu1⟩; have U1 := bnx hU hu1; have N1 := NxF.of hs1 hfr U1 (hU).size; have K1 := HKK.out _ U1; have K1a := HKK.out _ (U1.alloc U1.size (.cells #[.slice none 0 0, .slice none 0 0, .slice none 0 0] 40)); obtain ⟨e0, e1, e2, e3, e4, e5⟩ := T3.new u1 (.slice none 0 0) (.slice none 0 0) (.slice none 0 0) 40; have K1c := HKK.out _ (U1.alloc U1.size (.cells #[.slice Ao TO.length co, .slice Ad TD.length cd, .slice Ac TC.length cc] 40))))
              | (go_at_call 16; ((refine (CF.out _ hV).mono ?_); rintro e u1 ⟨An, cn, vo, vd, vc, rfl, hfr, hs1, ⟨Ao, co, rfl, _⟩, ⟨Ad, cd, rfl, _⟩, ⟨Ac, cc, rfl, _⟩, hu1⟩; have U1 := bnx hV hu1; have N1 := NxF.of hs1 hfr U1 (hV).size; have K1 := HKK.out _ U1; have T1 := t0.nx hu1 l0; have K2 := HKK.out _ (below_put3 U1 (Nat.le_refl wr.heap.size) (.slice Ao TO.length co) (.slice Ad TD.length cd) (.slice Ac TC.length cc)); unfold put3 at K2; obtain ⟨e0, e1, e2, e3, e4, e5⟩ := t0.nx hu1 l0)))
          all_goals (go_wp2_with fail; go_meet; first | exact N1.last _ | exact N1.put T1 (Nat.le_refl _) | exact (N1.last _).put (T3.new _ _ _ _ 40) U1.size)
        case rest =>
          obtain ⟨An, cn, rfl, rfl, r', z1, z2, z3, f, b⟩ := hcut
          have o2 := HOUT.out.nx b
          have rb : RBO _ wc An TN := ⟨r', fun ad e _ => HOUT.out.far (f ad e)⟩
          have hb2 := (bnx HBEL.out b).size
          have B2 := Lib.hid (bnx HBEL.out b)
          clear r' f b HKK CF
          go_wp2_with (at_builtin; refine holdIt ?_)
          unfold HoldP
          refine wpRow1 (w := wc) rfl (.tmp 47) (.tmp 49) (by rfl) w1.heap.size _ _ (by rfl) o2 An cn TN (by rfl) rb ⟨z2, z3, z1⟩ hb2 (by rw [List.length_map, List.length_range]; omega) ?_
          intro v2 w2 ho2 hr2 hb3
          have HO2 := Lib.hid ho2
          have HR2 := Lib.hid hr2.1
          have HB3 := Lib.hid (B2.out.trans hb3)
          clear ho2 hr2 hb3 o2 rb hb2 B2
          go_wp2
          go_roundg g
          case measure => omega
          case rel =>
            refine ⟨j + 1, An, cn, by omega, by go_num, by rw [HSN.out], by rw [HSN.out]; exact HR2.out, by rw [HSN.out]; exact ⟨z2, z3, z1⟩, by rw [HRN.out]; exact HO2.out, HB3.out, fun i hi => ?_⟩
            by_cases hij : i < j
            · exact HGOOD.out i hij
            · rw [show i = j by omega]; exact HHR.out
      · have CF : Hid (∀ wx, Below wr.heap.size wr wx → Calls Try.prog 16 #[.agg #[.int .i64 I, .slice AL L.length cL, .slice AG G.length cG, .slice AO O.length cO, .slice AB D.length cB, .slice AC C.length cC, .slice AN N.length cN], .slice A (stAt L G s0 ins j).length c, .slice A' r.length c'] wx (RetT wx [] [] [] [] 7)) := Lib.hid fun wx hx => refStep_no I AL AG AO AB AC AN cL cG cO cB cC cN L G O D C N A A' c c' (stAt L G s0 ins j) r wx (fun q => hrI q.2)
        obtain rfl : bb = true := by
          rw [← HBB.out]
          unfold badR
          rw [List.any_eq_true]
          refine ⟨r, ?_, by simpa using hrI⟩
          rw [← hr, List.getD_eq_getElem?_getD, List.getElem?_eq_getElem hjl]
          exact List.getElem_mem _
        simp only [Bool.not_true, orNil, errX, Bool.false_eq_true, if_false]
        clear hk0 hrI hst hrr hsl hbel hout hgood hz hcr hab hrn hsn hB0 HOUT HGOOD
        go_upto_region 8 with fail
        go_cut [12, 14] (fun s12 s14 wx => NxB wr s14 wx)
        case first =>
          have hU := (Below.refl wr.heap.size wr).drew
          have hV := hU.alloc hU.size (.cells #[.slice none 0 0, .slice none 0 0, .slice none 0 0] 40)
          have K0 := HKK.out _ hU
          have K0a := HKK.out _ hV
          have t0 : T3 (wr.drew.alloc (.cells #[.slice none 0 0, .slice none 0 0, .slice none 0 0] 40)) wr.heap.size (.slice none 0 0) (.slice none 0 0) (.slice none 0 0) := T3.new wr.drew _ _ _ 40
          have l0 : wr.heap.size < (wr.drew.alloc (.cells #[.slice none 0 0, .slice none 0 0, .slice none 0 0] 40)).heap.size := by simp
          go_region_held3 (fun w' => w'.cell? ⟨w.heap.size, 0, none⟩ = some (.int .i64 I) ∧ w'.cell? ⟨w.heap.size, 1, none⟩ = some (.slice AL L.length cL) ∧ w'.cell? ⟨w.heap.size, 2, none⟩ = some (.slice AG G.length cG) ∧ w'.cell? ⟨w.heap.size, 3, none⟩ = some (.slice AO O.length cO) ∧ w'.cell? ⟨w.heap.size, 4, none⟩ = some (.slice AB D.length cB) ∧ w'.cell? ⟨w.heap.size, 5, none⟩ = some (.slice AC C.length cC) ∧ w'.cell? ⟨w.heap.size, 6, none⟩ = some (.slice AN N.length cN) ∧ w'.cell? (ad.add j) = some (.slice A' r.length c'))
            (first | exact K0 | exact K0a | exact K1 | exact K1a | exact K1c | exact K2 | go_keep)
            (first
              | (go_at_call 16; ((with_reducible refine (CF.out _ hU).mono ?_); rintro e u1 ⟨vn, vo, vd, vc, rfl, ⟨An, cn, rfl, _⟩, ⟨Ao, co, rfl, _⟩, ⟨Ad, cd, rfl, _⟩, ⟨Ac, cc, rfl, _⟩, hu1⟩; have U1 := bnx hU hu1; have N1 : NxB wr (.int .i64 7) u1 := ⟨rfl, U1⟩; have K1 := HKK.out _ U1; have K1a := HKK.out _ (U1.alloc U1.size (.cells #[.slice none 0 0, .slice none 0 0, .slice none 0 0] 40)); obtain ⟨e0, e1, e2, e3, e4, e5⟩ := T3.new u1 (.slice none 0 0) (.slice none 0 0) (.slice none 0 0) 40; have K1c := HKK.out _ (U1.alloc U1.size (.cells #[.slice Ao 0 co, .slice Ad 0 cd, .slice Ac 0 cc] 40))))
              | (go_at_call 16; ((refine (CF.out _ hV).mono ?_); rintro e u1 ⟨vn, vo, vd, vc, rfl, ⟨An, cn, rfl, _⟩, ⟨Ao, co, rfl, _⟩, ⟨Ad, cd, rfl, _⟩, ⟨Ac, cc, rfl, _⟩, hu1⟩; have U1 := bnx hV hu1; have N1 : NxB wr (.int .i64 7) u1 := ⟨rfl, U1⟩; have K1 := HKK.out _ U1; have T1 := t0.nx hu1 l0; have K2 := HKK.out _ (below_put3 U1 (Nat.le_refl wr.heap.size) (.slice Ao 0 co) (.slice Ad 0 cd) (.slice Ac 0 cc)); unfold put3 at K2; obtain ⟨e0, e1, e2, e3, e4, e5⟩ := t0.nx hu1 l0)))
          all_goals (go_wp2_with fail; go_meet; first | exact N1.last _ | exact N1.put T1 (Nat.le_refl _) | exact (N1.last _).put (T3.new _ _ _ _ 40) U1.size)
        case rest =>
          obtain ⟨rfl, b⟩ := hcut
          have HFIN := Lib.hid (HB.out.trans ((bnx HB1.out (bnx HBEL.out b)).mono HB.out.size))
          clear b HKK CF
          go_wp2
          go_ret2
          exact ⟨none, 0, rfl, RR.nil _ _ _, fun _ => rfl, by simp, by simp [maxLen], HFIN.out⟩
theorem refRun_any (I : Int) (AL AG AO AB AC AN : Option Addr) (cL cG cO cB cC cN : Nat) (L G : List Pr) (O D C : List Int) (N : List Nm) (AS AI : Option Addr) (cs ci : Nat) (st : List Bool) (ins : List (List Bool)) (w : World) (hA : RA w w.heap.size AL AG AO AB AC AN L G O D C N) (hS : RB w w.heap.size AS st) (hR : RR w w.heap.size AI ins) (hM : Md I L G O D C) (hn : ins.length ≤ 1000000) :
    Calls Try.prog 20 #[.agg #[.int .i64 I, .slice AL L.length cL, .slice AG G.length cG, .slice AO O.length cO, .slice AB D.length cB, .slice AC C.length cC, .slice AN N.length cN], .slice AS st.length cs, .slice AI ins.length ci] w (RetRR w (orNil (fitR I L st ins) (runL L G (startL L st) ins)) (errX (fitR I L st ins))) := by
  cases h : fitS L st
  · have e : fitR I L st ins = false := by simp [fitR, h]
    rw [e]
    exact refRun_no I AL AG AO AB AC AN cL cG cO cB cC cN L G O D C N AS AI cs ci st ins w (by simpa [fitS] using h)
  · have e : fitR I L st ins = !badR I ins := by simp [fitR, h]
    rw [e]
    exact refRun_yes I AL AG AO AB AC AN cL cG cO cB cC cN L G O D C N AS AI cs ci st ins w hA hS hR hM hn (by simpa [fitS] using h)
end Go.Proofs.Ytkdocjcpehmljaa
