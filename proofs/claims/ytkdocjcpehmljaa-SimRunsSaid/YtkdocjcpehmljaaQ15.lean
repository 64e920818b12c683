/-
  xor with one.
  One statement's walk: SimGates.
  How the arguments of the statements that take a struct are opened.
-/
import Derived.Test.YtkdocjcpehmljaaProg
import Derived.WalkKit
import Derived.WalkSpells
import Derived.WalkLawsBesides
import Derived.Lib.Hide
import Derived.BigQuiet
import Derived.Deep.QuietTactic
import Derived.Deep.RegionWith
import Derived.Deep.RegionHeld3
import Derived.Test.YtkdocjcpehmljaaQ12
import Derived.Laws.BitsAllLaws
import Derived.IntWalk
import Derived.Test.YtkdocjcpehmljaaQ13
set_option linter.unusedVariables false
/- xor with one. -/
namespace Go.Proofs.Ytkdocjcpehmljaa
open Go.RowKit
theorem xor_one (a : Nat) : (a ^^^ 1) / 2 = a / 2 ∧ (a ^^^ 1) % 2 = 1 - a % 2 := by
  refine ⟨?_, ?_⟩
  · have := Nat.shiftRight_xor_distrib (a := a) (b := 1) (i := 1)
    simp only [Nat.shiftRight_eq_div_pow] at this
    simpa using this
  · have h : (a ^^^ 1) % 2 ^ 1 = (a % 2 ^ 1) ^^^ (1 % 2 ^ 1) := Nat.xor_mod_two_pow
    simp only [Nat.pow_one] at h
    rw [h]
    have : a % 2 = 0 ∨ a % 2 = 1 := by omega
    rcases this with e | e <;> rw [e] <;> rfl
theorem bits_xor_one (l : Int) (h0 : 0 ≤ l) (h1 : l ≤ 4611686018427387904) : 0 ≤ bits .xor .i64 l 1 ∧ bits .xor .i64 l 1 ≤ 4611686018427387905 ∧ bits .xor .i64 l 1 / 2 = l / 2 ∧ bits .xor .i64 l 1 % 2 = 1 - l % 2 := by
  obtain ⟨a, rfl⟩ := Int.eq_ofNat_of_zero_le h0
  obtain ⟨e1, e2⟩ := xor_one a
  have ha : a < 18446744073709551616 := by omega
  have e : bits .xor .i64 (a : Int) 1 = ((a ^^^ 1 : Nat) : Int) := by
    show IntKind.i64.wrap ((BitVec.ofInt 64 (a : Int) ^^^ BitVec.ofInt 64 1).toNat : Int) = _
    rw [BitVec.toNat_xor, ofInt_u64 a ha, show (BitVec.ofInt 64 1).toNat = 1 by decide]
    have hl : a ^^^ 1 ≤ 4611686018427387905 := by omega
    generalize a ^^^ 1 = b at *
    simp [IntKind.wrap, IntKind.bits, IntKind.signed]
    omega
  rw [e]
  omega
end Go.Proofs.Ytkdocjcpehmljaa
/- One statement's walk: SimGates. -/
namespace Go.Proofs.Ytkdocjcpehmljaa
open Go.RowKit
theorem vals_tail (b : List Bool) (G : List Pr) : ∃ t, vals b G = b ++ t := by
  induction G generalizing b with
  | nil => exact ⟨[], by simp [vals]⟩
  | cons g G ih =>
    obtain ⟨t, h⟩ := ih (b ++ [lt b g.1 && lt b g.2])
    exact ⟨[lt b g.1 && lt b g.2] ++ t, by rw [vals, h, List.append_assoc]⟩
theorem lt_vals (b : List Bool) (G : List Pr) {l : Int} (h0 : 0 ≤ l) (h : l / 2 < (b.length : Int)) : lt (vals b G) l = lt b l := by
  obtain ⟨t, e⟩ := vals_tail b G
  rw [e]
  exact lt_app b t h0 (by omega)
theorem gate_at (b : List Bool) (G : List Pr) (j : Nat) (h : j < G.length) (ht : topo b.length G) :
    (vals b G).getD (b.length + j) false = (lt (vals b G) (G.getD j (0, 0)).1 && lt (vals b G) (G.getD j (0, 0)).2) := by
  obtain ⟨t1, t2, t3⟩ := ht j h
  have hl : (vals b (G.take j)).length = b.length + j := by rw [vals_length, List.length_take]; omega
  have e : vals b G = vals (vals b (G.take j)) (G.drop j) := by rw [← vals_app, List.take_append_drop]
  have e1 : lt (vals b G) (G.getD j (0, 0)).1 = lt (vals b (G.take j)) (G.getD j (0, 0)).1 := by rw [e]; exact lt_vals _ _ (by omega) (by rw [hl]; omega)
  have e2 : lt (vals b G) (G.getD j (0, 0)).2 = lt (vals b (G.take j)) (G.getD j (0, 0)).2 := by rw [e]; exact lt_vals _ _ (by omega) (by rw [hl]; omega)
  rw [e1, e2, e]
  have e3 : G.drop j = G.getD j (0, 0) :: G.drop (j + 1) := by rw [List.drop_eq_getElem_cons h]; simp [List.getD, h]
  rw [e3, vals]
  obtain ⟨t, e4⟩ := vals_tail (vals b (G.take j) ++ [lt (vals b (G.take j)) (G.getD j (0, 0)).1 && lt (vals b (G.take j)) (G.getD j (0, 0)).2]) (G.drop (j + 1))
  rw [e4, ← hl, List.getD_eq_getElem?_getD, List.getElem?_append_left (by simp), List.getElem?_append_right (Nat.le_refl _)]
  simp
theorem vals_parts (st inp : List Bool) (G : List Pr) : (valsOf st inp G).getD 0 false = false ∧ ((valsOf st inp G).drop 1).take inp.length = inp ∧ ((valsOf st inp G).drop (1 + inp.length)).take st.length = st := by
  obtain ⟨t, e⟩ := vals_tail (false :: (inp ++ st)) G
  unfold valsOf
  rw [e]
  refine ⟨rfl, ?_, ?_⟩
  · simp
  · rw [show 1 + inp.length = inp.length + 1 by omega]
    simp
theorem quietS {f : FuncId} {args : Array Value} {w : World} {n : Nat} {v : Value} (h : Calls Try.prog f args (w.drewN n) (RetS (w.drewN n) v)) : Calls Try.prog f args (w.drewN n) fun e w'' => e = .returned v ∧ ∃ m, w'' = w.drewN m :=
  h.mono fun _ _ ⟨he, hm⟩ => ⟨he, n, hm.symm⟩
theorem lt_flip (v : List Bool) (l : Int) (h0 : 0 ≤ l) (h : l < 2 * (v.length : Int)) (l' : Int) (h' : l' / 2 = l / 2) (h2 : l' % 2 = 1 - l % 2) : lt v l' = !lt v l := by
  rw [lt_in v (by omega) (by omega), lt_in v h0 (by omega), h', h2]
  have : l % 2 = 0 ∨ l % 2 = 1 := by omega
  rcases this with e | e <;> rw [e] <;> cases v.getD (l / 2).toNat false <;> rfl
theorem lt_out (v : List Bool) (l : Int) (h : ¬ (0 ≤ l ∧ l < 2 * (v.length : Int))) : lt v l = false := by
  by_cases h0 : l < 0
  · exact lt_neg v h0
  · exact lt_far v (by omega)
set_option maxRecDepth 100000 in
set_option maxHeartbeats 8000000 in
theorem gates_any (I : Int) (AL AG AO AB AC AN : Option Addr) (cL cG cO cB cC cN : Nat) (L G : List Pr) (O D C : List Int) (N : List Nm) (AS AI : Option Addr) (cs ci : Nat) (st inp : List Bool) (l : Int) (w : World) (hA : RA w w.heap.size AL AG AO AB AC AN L G O D C N) (lO : O.length ≤ maxLen) (lD : D.length ≤ maxLen) (lC : C.length ≤ maxLen) (lN : N.length ≤ maxLen)
    (hS : RB w w.heap.size AS st) (hI : RB w w.heap.size AI inp) (nS : st.length ≤ cs) (mS : cs ≤ maxLen) (nI : inp.length ≤ ci) (mI : ci ≤ maxLen) (b0 : -9223372036854775808 ≤ l) (b1 : l ≤ 9223372036854775807) :
    Calls Try.prog 4 #[.agg #[.int .i64 I, .slice AL L.length cL, .slice AG G.length cG, .slice AO O.length cO, .slice AB D.length cB, .slice AC C.length cC, .slice AN N.length cN, .slice AS st.length cs, .slice AI inp.length ci, .int .i64 l]] w (RetV w (.bool true)) := by
  have hb := bal (bal (Below.refl w.heap.size w) (.cells #[.int .i64 I, .slice AL L.length cL, .slice AG G.length cG, .slice AO O.length cO, .slice AB D.length cB, .slice AC C.length cC, .slice AN N.length cN, .slice AS st.length cs, .slice AI inp.length ci, .int .i64 l] 56)) (.cells #[.int .i64 I, .slice AL L.length cL, .slice AG G.length cG, .slice AO O.length cO, .slice AB D.length cB, .slice AC C.length cC, .slice AN N.length cN] 27)
  have hk : KA ((w.alloc (.cells #[.int .i64 I, .slice AL L.length cL, .slice AG G.length cG, .slice AO O.length cO, .slice AB D.length cB, .slice AC C.length cC, .slice AN N.length cN, .slice AS st.length cs, .slice AI inp.length ci, .int .i64 l] 56)).alloc (.cells #[.int .i64 I, .slice AL L.length cL, .slice AG G.length cG, .slice AO O.length cO, .slice AB D.length cB, .slice AC C.length cC, .slice AN N.length cN] 27)) (w.heap.size + 1) I AL AG AO AB AC AN cL cG cO cB cC cN L G O D C N := by constructor <;> go_simp
  have hs0 : ((w.alloc (.cells #[.int .i64 I, .slice AL L.length cL, .slice AG G.length cG, .slice AO O.length cO, .slice AB D.length cB, .slice AC C.length cC, .slice AN N.length cN, .slice AS st.length cs, .slice AI inp.length ci, .int .i64 l] 56)).alloc (.cells #[.int .i64 I, .slice AL L.length cL, .slice AG G.length cG, .slice AO O.length cO, .slice AB D.length cB, .slice AC C.length cC, .slice AN N.length cN] 27)).heap.size = w.heap.size + 2 := by simp
  have HS0 := Lib.hid hs0
  have CSH := shown_any ((w.alloc (.cells #[.int .i64 I, .slice AL L.length cL, .slice AG G.length cG, .slice AO O.length cO, .slice AB D.length cB, .slice AC C.length cC, .slice AN N.length cN, .slice AS st.length cs, .slice AI inp.length ci, .int .i64 l] 56)).alloc (.cells #[.int .i64 I, .slice AL L.length cL, .slice AG G.length cG, .slice AO O.length cO, .slice AB D.length cB, .slice AC C.length cC, .slice AN N.length cN] 27))
  have HA := Lib.hid (hA.nx hb)
  have HB := Lib.hid hb
  have HK := Lib.hid hk
  have HS := Lib.hid (hS.nx hb)
  have HI := Lib.hid (hI.nx hb)
  have CM := May_any I AL AG AO AB AC AN cL cG cO cB cC cN L G O D C N
  have HCM := Lib.hid (fun wx h => CM wx h lO lD lC lN)
  have ls : st.length ≤ 9223372036854775807 := by unfold maxLen at mS; omega
  have li : inp.length ≤ 9223372036854775807 := by unfold maxLen at mI; omega
  have HLI := Lib.hid (show st.length ≤ maxLen ∧ inp.length ≤ maxLen by omega)
  clear hA hb hk hs0 hS hI CM lO lD lC lN nS mS nI mI
  go_enter Try.func4, Try.ntmps4
  go_wp2_with fail
  refine CSH.mono ?_; rintro e u1 ⟨rfl, hu1⟩
  generalize ((w.alloc (.cells #[.int .i64 I, .slice AL L.length cL, .slice AG G.length cG, .slice AO O.length cO, .slice AB D.length cB, .slice AC C.length cC, .slice AN N.length cN, .slice AS st.length cs, .slice AI inp.length ci, .int .i64 l] 56)).alloc (.cells #[.int .i64 I, .slice AL L.length cL, .slice AG G.length cG, .slice AO O.length cO, .slice AB D.length cB, .slice AC C.length cC, .slice AN N.length cN] 27)) = w0 at *
  obtain ⟨k0, k1, k2, k3, k4, k5, k6⟩ := HK.out.nx hu1 (by have := HS0.out; omega)
  have HU1 := Lib.hid hu1
  have C1 := HCM.out u1 (HA.out.nx hu1)
  clear CSH hu1 HCM
  go_wp2_with fail
  refine C1.mono ?_; rintro e u2 ⟨bm, rfl, pm, hu2⟩
  have hU2 := bnx HU1.out hu2
  have HU2 := Lib.hid hU2
  have HF2 := Lib.hid (HB.out.trans (hU2.mono HB.out.size))
  obtain ⟨g0, g1, g2, g3, g4, g5, g6⟩ := HK.out.nx hU2 (by have := HS0.out; omega)
  have HP := Lib.hid pm
  clear C1 hu2 hU2 pm k0 k1 k2 k3 k4 k5 k6
  cases bm
  · clear g0 g1 g2 g3 g4 g5 g6
    go_wp2
    go_ret
    exact ⟨rfl, HF2.out⟩
  have hMd := HP.out (by simp)
  have HM := Lib.hid hMd.1
  have x0 : L.length ≤ 40 := hMd.2.2.1
  have x1 : G.length ≤ 40 := hMd.2.2.2.1
  have x2 : 0 ≤ I := hMd.1.i0
  have x3 : I ≤ 40 := hMd.2.1
  clear HP hMd
  by_cases hsn : ¬ st.length = L.length
  · have d6 : ((st.length : Int) != (L.length : Int)) = true := by simp; omega
    clear hsn
    go_wp2
    go_ret
    exact ⟨rfl, HF2.out⟩
  have hs : st.length = L.length := Classical.not_not.1 hsn
  clear hsn
  have d6 : ((st.length : Int) != (L.length : Int)) = false := by simp [hs]
  by_cases hin : ¬ (inp.length : Int) = I
  · have d7 : ((inp.length : Int) != I) = true := by simpa using hin
    clear hs hin
    go_wp2
    go_ret
    exact ⟨rfl, HF2.out⟩
  have hi : (inp.length : Int) = I := Classical.not_not.1 hin
  clear hin
  subst hi
  have d7 : ((inp.length : Int) != (inp.length : Int)) = false := by simp
  have CV := (Values_any (inp.length : Int) AL AG AO AB AC AN cL cG cO cB cC cN L G O D C N AS AI cs ci st inp u2 (HA.out.nx HU2.out) (HS.out.nx HU2.out) (HI.out.nx HU2.out) HM.out)
  have ef : fit (inp.length : Int) L st inp = true := by simp [fit, hs]
  rw [ef] at CV
  simp only [orNil, errX, if_true] at CV
  obtain ⟨v0, v1, v2⟩ := vals_parts st inp G
  have hvl := valsOf_length st inp G
  have HGT : Hid (∀ j, j < G.length → (valsOf st inp G).getD (1 + inp.length + L.length + j) false = (lt (valsOf st inp G) (G.getD j (0, 0)).1 && lt (valsOf st inp G) (G.getD j (0, 0)).2) ∧ 0 ≤ (G.getD j (0, 0)).2 ∧ (G.getD j (0, 0)).2 ≤ (G.getD j (0, 0)).1 ∧ (G.getD j (0, 0)).1 < 1000000) := Lib.hid fun j hj => by
    have hl : (false :: (inp ++ st)).length = 1 + inp.length + L.length := by simp; omega
    have ht : topo (false :: (inp ++ st)).length G := by rw [hl]; have := HM.out.tp; simpa using this
    have := gate_at (false :: (inp ++ st)) G j hj ht
    rw [hl] at this
    obtain ⟨t1, t2, t3⟩ := ht j hj
    exact ⟨this, t1, t2, by omega⟩
  rw [hs] at hvl
  have HHS := Lib.hid hs
  generalize valsOf st inp G = V at *
  clear ef hs
  go_wp2_with fail
  refine CV.mono ?_; rintro e u3 ⟨AV, cV, rfl, hV, zV, nV, mV, hu3⟩
  have HU3 := Lib.hid (bnx HU2.out hu3)
  have HF3 := Lib.hid (HB.out.trans (HU3.out.mono HB.out.size))
  obtain ⟨k0, k1, k2, k3, k4, k5, k6⟩ := HK.out.nx HU3.out (by have := HS0.out; omega)
  obtain ⟨adv, rfl, hva, hv0⟩ := hV 0 (by omega)
  rw [v0] at hv0
  have hv1 : u3.cell? adv = some (.bool false) := by simpa [Addr.add] using hv0
  have HV := Lib.hid hV
  have HMV := Lib.hid (And.intro nV mV)
  obtain ⟨Z1, hZ1⟩ : ∃ Z, cutA (some adv) cV 1 = Z := ⟨_, rfl⟩
  obtain ⟨Z2, hZ2⟩ : ∃ Z, cutA (some adv) cV (1 + inp.length) = Z := ⟨_, rfl⟩
  have sl1 : ∀ wx, (Instr.slice 28 (.slice (some adv) V.length cV) (some (.int .i64 1)) (some (.int .i64 (1 + (inp.length : Int)))) none).run Try.prog wx = .ok (.slice Z1 inp.length (cV - 1)) wx := fun wx => by
    rw [← hZ1]
    exact slice28_lh (some adv) V.length cV 1 inp.length 1 (1 + (inp.length : Int)) rfl (by omega) (by omega) wx
  have sl2 : ∀ wx, (Instr.slice 28 (.slice (some adv) V.length cV) (some (.int .i64 (1 + (inp.length : Int)))) (some (.int .i64 (1 + (inp.length : Int) + (L.length : Int)))) none).run Try.prog wx = .ok (.slice Z2 L.length (cV - (1 + inp.length))) wx := fun wx => by
    rw [← hZ2]
    exact slice28_lh (some adv) V.length cV (1 + inp.length) L.length (1 + (inp.length : Int)) (1 + (inp.length : Int) + (L.length : Int)) (by omega) (by omega) (by omega) wx
  have r1 := hV.cut (k := 1) (c := cV) (m := inp.length) nV
  have r2 := hV.cut (k := 1 + inp.length) (c := cV) (m := st.length) nV
  rw [v1, hZ1] at r1
  rw [v2, hZ2] at r2
  have CF1 : Hid (∀ wx, Below u3.heap.size u3 wx → Calls Try.prog 21 #[.slice Z1 inp.length (cV - 1), .slice AI inp.length ci] wx (RetV wx (.bool true))) := Lib.hid fun wx hx => by
    have := Flags_any Z1 AI (cV - 1) ci inp inp wx (r1.nx hx) (HI.out.nx (bnx HU3.out hx)) HLI.out.2 HLI.out.2
    simpa using this
  have CF2 : Hid (∀ wx, Below u3.heap.size u3 wx → Calls Try.prog 21 #[.slice Z2 L.length (cV - (1 + inp.length)), .slice AS st.length cs] wx (RetV wx (.bool true))) := Lib.hid fun wx hx => by
    have := Flags_any Z2 AS (cV - (1 + inp.length)) cs st st wx (r2.nx hx) (HS.out.nx (bnx HU3.out hx)) HLI.out.1 HLI.out.1
    rw [show (st == st) = true by simp] at this
    have e := HHS.out
    rw [← e]
    exact this
  have d8 : ((V.length : Int) != 1 + (inp.length : Int) + (L.length : Int) + (G.length : Int)) = false := by rw [hvl]; simp
  have HVL := Lib.hid hvl
  have hp1 : 0 < V.length := by omega
  have hp2 : (0 : Int) < (V.length : Int) := by omega
  have c21 := CF1.out u3 (Below.refl _ _)
  clear CV g0 g1 g2 g3 g4 g5 g6 hu3 hV zV nV mV v0 v1 v2 r1 r2 hZ1 hZ2 hvl
  go_wp2_with fail
  refine c21.mono ?_; rintro e u4 ⟨rfl, hu4⟩
  have c21b := CF2.out u4 hu4
  obtain ⟨g0, g1, g2, g3, g4, g5, g6⟩ := HK.out.nx (bnx HU3.out hu4) (by have := HS0.out; omega)
  clear c21 k0 k1 k2 k3 k4 k5 k6 hv0 hv1
  go_wp2_with fail
  refine c21b.mono ?_; rintro e u5 ⟨rfl, hu5⟩
  have HU5 := Lib.hid (bnx HU3.out (bnx hu4 hu5))
  have HV5 := Lib.hid (HV.out.nx (bnx hu4 hu5))
  have HF5 := Lib.hid (HB.out.trans (HU5.out.mono HB.out.size))
  obtain ⟨k0, k1, k2, k3, k4, k5, k6⟩ := HK.out.nx HU5.out (by have := HS0.out; omega)
  obtain ⟨F, hF⟩ : ∃ F, 1 + inp.length + L.length = F := ⟨_, rfl⟩
  have hF' : 1 + (inp.length : Int) + (L.length : Int) = (F : Int) := by omega
  have f40 : F ≤ 100 := by omega
  have hv2 : V.length ≤ 1000 := by rw [HVL.out]; omega
  rw [hF] at HGT HVL
  clear c21b hu4 hu5 g0 g1 g2 g3 g4 g5 g6 CF1 CF2 sl1 sl2 HF3 HF2 HU1 HU2 hF d8 d6 d7
  go_upto_region 11 with fail
  try rw [hF']
  clear hF'
  have HL5 : Hid (∀ x : Int, -9223372036854775808 ≤ x → x ≤ 9223372036854775807 → ∀ wx, Below u5.heap.size u5 wx → Calls Try.prog 23 #[.slice (some adv) V.length cV, .int .i64 x] wx (RetS wx (.bool (lt V x)))) := Lib.hid fun x h0 h1 wx hx => Lit_any (some adv) cV V x wx (HV5.out.nx hx) (by have := HMV.out; omega) h0 h1
  have HA5 := Lib.hid (HA.out.nx HU5.out)
  have HK5 := Lib.hid (HK.out.nx HU5.out (by have := HS0.out; omega))
  have hbk : w.heap.size + 1 < u5.heap.size := by have := HS0.out; have := HU5.out.size; omega
  have HBK := Lib.hid hbk
  clear hbk k0 k1 k2 k3 k4 k5 k6 HS HI HM
  go_loopg [11] G.length (fun g s wr => ∃ j : Nat, j + g = G.length ∧ s = .int .i64 j ∧ Below u5.heap.size u5 wr)
  case atStart => exact ⟨0, by omega, rfl, Below.refl _ _⟩
  case round =>
    obtain ⟨j, hj, rfl, hbel⟩ := hrel
    obtain ⟨_, _, k2, _, _, _, _⟩ := HK5.out.nx hbel HBK.out
    cases gk with
    | zero =>
      have q1 : ¬ ((j : Int) < G.length) := by omega
      have q2 : ¬ (j < G.length) := by omega
      have HX := Lib.hid (HF5.out.trans (hbel.mono HF5.out.size))
      have CX : Hid (∀ x : Int, -9223372036854775808 ≤ x → x ≤ 9223372036854775807 → Calls Try.prog 23 #[.slice (some adv) V.length cV, .int .i64 x] wr (RetS wr (.bool (lt V x)))) := Lib.hid fun x h0 h1 => HL5.out x h0 h1 _ hbel
      clear HL5 HA5 HK5 HV5 HGT hbel HU5 HU3 HF5 HV
      by_cases l0 : 0 ≤ l
      · have e0 : decide (0 ≤ l) = true := decide_eq_true l0
        by_cases l1 : l < 2 * (V.length : Int)
        · have e1 : decide (l < 2 * (V.length : Int)) = true := decide_eq_true l1
          obtain ⟨y0, y1, y2, y3⟩ := bits_xor_one l l0 (by have := HVL.out; omega)
          have c1 := CX.out l b0 b1
          have c2 := CX.out (bits .xor .i64 l 1) (by omega) (by omega)
          rw [lt_flip V l l0 l1 _ y2 y3] at c2
          clear CX y0 y1 y2 y3
          generalize lt V l = xa at *
          have C2 := Lib.hid c2
          clear c2
          cases xa
          · go_wp2_with fail
            refine c1.mono ?_; rintro e w' ⟨rfl, rfl⟩
            clear c1
            have c2 := C2.out
            clear C2
            go_wp2_with fail
            refine c2.mono ?_; rintro e w' ⟨rfl, rfl⟩
            clear c2
            go_wp2
            go_ret
            exact ⟨rfl, HX.out⟩
          · go_wp2_with fail
            refine c1.mono ?_; rintro e w' ⟨rfl, rfl⟩
            clear c1
            have c2 := C2.out
            clear C2
            go_wp2_with fail
            refine c2.mono ?_; rintro e w' ⟨rfl, rfl⟩
            clear c2
            go_wp2
            go_ret
            exact ⟨rfl, HX.out⟩
        · have e1 : decide (l < 2 * (V.length : Int)) = false := decide_eq_false l1
          have c1 := CX.out l b0 b1
          rw [lt_out V l (fun h => l1 h.2)] at c1
          clear CX
          go_wp2_with fail
          refine c1.mono ?_; rintro e w' ⟨rfl, rfl⟩
          clear c1
          go_wp2
          go_ret
          exact ⟨rfl, HX.out⟩
      · have e0 : decide (0 ≤ l) = false := decide_eq_false l0
        have c1 := CX.out l b0 b1
        rw [lt_out V l (fun h => l0 h.1)] at c1
        clear CX
        go_wp2_with fail
        refine c1.mono ?_; rintro e w' ⟨rfl, rfl⟩
        clear c1
        go_wp2
        go_ret
        exact ⟨rfl, HX.out⟩
    | succ g =>
      have hjl : j < G.length := by omega
      have hjl' : (j : Int) < G.length := by omega
      have hjv : F + j < V.length := by have := HVL.out; omega
      have hjv' : (F : Int) + (j : Int) < (V.length : Int) := by omega
      obtain ⟨ad, rfl, hab, hp0, hp1⟩ := HA5.out.g j hjl
      have hq := (HV5.out.nx hbel) (F + j) hjv
      obtain ⟨ad', e', _, hq⟩ := hq
      cases e'
      obtain ⟨hgt, t1, t2, t3⟩ := HGT.out j hjl
      rw [hgt] at hq
      generalize G.getD j (0, 0) = p at *
      obtain ⟨x, y⟩ := p
      simp only at hp0 hp1 hq t1 t2 t3 hgt
      have HKK : Hid (∀ wx, Below u5.heap.size u5 wx → wx.cell? ⟨w.heap.size + 1, 2, none⟩ = some (.slice (some ad) G.length cG) ∧ wx.cell? (ad.add (j * 2)) = some (.int .i64 x) ∧ wx.cell? ⟨(ad.add (j * 2)).block, (ad.add (j * 2)).off + 1, none⟩ = some (.int .i64 y)) := Lib.hid fun wx hx =>
        ⟨(HK5.out.nx hx HBK.out).k2, (hx.cell (p := ad.add (j * 2)) (by rw [block_add]; exact hab)).trans hp0, (hx.cell (p := ⟨(ad.add (j * 2)).block, (ad.add (j * 2)).off + 1, none⟩) (by show (ad.add (j * 2)).block < _; rw [block_add]; exact hab)).trans hp1⟩
      have hD : ∀ n, Below u5.heap.size u5 (wr.drewN n) := fun n => hbel.trans ((drw n).mono hbel.size)
      obtain ⟨h2, hp0', hp1'⟩ := HKK.out _ hbel
      have CA : Hid (∀ n, Calls Try.prog 23 #[.slice (some adv) V.length cV, .int .i64 x] (wr.drewN n) (RetS (wr.drewN n) (.bool (lt V x)))) := Lib.hid fun n => HL5.out x (by omega) (by omega) _ (hD n)
      have CB : Hid (∀ n, Calls Try.prog 23 #[.slice (some adv) V.length cV, .int .i64 y] (wr.drewN n) (RetS (wr.drewN n) (.bool (lt V y)))) := Lib.hid fun n => HL5.out y (by omega) (by omega) _ (hD n)
      generalize lt V x = xa at *
      generalize lt V y = xb at *
      have HD := Lib.hid hD
      clear hp0 hp1 HKK HL5 HA5 HK5 HV5 HGT HU5 HU3 HV hgt hD hbel
      cases xa
      · simp only [Bool.false_and] at hq
        go_wp2
        go_quiet (first | exact quietS (CA.out _) | exact quietS (CB.out _))
        clear CA CB
        go_wp2
        go_roundg g
        case measure => omega
        case rel => exact ⟨j + 1, by omega, by go_num, HD.out _⟩
      · simp only [Bool.true_and] at hq
        cases xb
        · go_wp2
          go_quiet (first | exact quietS (CA.out _) | exact quietS (CB.out _))
          clear CA CB
          go_wp2
          go_roundg g
          case measure => omega
          case rel => exact ⟨j + 1, by omega, by go_num, HD.out _⟩
        · go_wp2
          go_quiet (first | exact quietS (CA.out _) | exact quietS (CB.out _))
          clear CA CB
          go_wp2
          go_roundg g
          case measure => omega
          case rel => exact ⟨j + 1, by omega, by go_num, HD.out _⟩
end Go.Proofs.Ytkdocjcpehmljaa
/- How the arguments of the statements that take a struct are opened. -/
namespace Go.Proofs.Ytkdocjcpehmljaa
open Go.RowKit
open Go.Shelf Go.ChangeShapes Go.WideShapes Go.ChangeAt Go.RowKit Go.Lib Go.Joins
theorem cells56 : Try.prog.cellsOf 56 = 10 := by kernel_rfl
theorem cells67 : Try.prog.cellsOf 67 = 11 := by kernel_rfl
set_option maxRecDepth 100000 in
theorem opened56 {H : Type} {enc : TypeId × Value → H} {W : World} {fuel : Nat} {cs : Array Value} {y : DataW H × List MemPlace} (hsz : cs.size = Try.prog.cellsOf 56) (h : DataW.trod enc Try.prog W 0 (fun _ => true) true fuel 56 (Value.agg cs).cells.toList = some y) :
    ∃ (I : Int) (AL AG AO AB AC AN : Option Addr) (cL cG cO cB cC cN : Nat) (L G : List Pr) (O D C : List Int) (N : List Nm), ∃ (AS AI : Option Addr) (ks ki : Nat) (st inp : List Bool) (l : Int), cs = #[.int .i64 I, .slice AL L.length cL, .slice AG G.length cG, .slice AO O.length cO, .slice AB D.length cB, .slice AC C.length cC, .slice AN N.length cN, .slice AS st.length ks, .slice AI inp.length ki, .int .i64 l] ∧ RA W W.heap.size AL AG AO AB AC AN L G O D C N ∧ (O.length ≤ maxLen ∧ D.length ≤ maxLen ∧ C.length ≤ maxLen ∧ N.length ≤ maxLen) ∧
      (RB W W.heap.size AS st ∧ st.length ≤ ks ∧ ks ≤ maxLen ∧ (AS = none → ks = 0)) ∧ (RB W W.heap.size AI inp ∧ inp.length ≤ ki ∧ ki ≤ maxLen ∧ (AI = none → ki = 0)) ∧ -9223372036854775808 ≤ l ∧ l ≤ 9223372036854775807 := by
  obtain ⟨l⟩ := cs
  match l, hsz.trans cells56 with
  | [v0, v1, v2, v3, v4, v5, v6, v7, v8, v9], _ =>
    obtain ⟨xs, k, hk, hxy, _, hxl, hf⟩ := DataW.trod_struct Try.underlying56 h
    match xs, hxl with
    | [y0, y1, y2, y3], _ =>
      have g0 := hf 0 _ rfl
      have g1 := hf 1 _ rfl
      have g2 := hf 2 _ rfl
      have g3 := hf 3 _ rfl
      simp [cells3, cells27, cells28, Value.cells] at g0 g1 g2 g3
      obtain ⟨I, AL, AG, AO, AB, AC, AN, cL, cG, cO, cB, cC, cN, L, G, O, D, C, N, e, hRA, ⟨nL, nG, nO, nD, nC, nN⟩, ⟨mL, mG, mO, mD, mC, mN⟩, zG, zO, zB, zC⟩ := opened_aig g0
      obtain ⟨AS, cS, S, rfl, r1, n1, m1, z1⟩ := opened28 g1
      obtain ⟨AI, cI, S2, rfl, r2, n2, m2, z2⟩ := opened28 g2
      obtain ⟨i, e3, _, w3⟩ := DataW.trod_int Try.underlying3 g3
      have hb := bounds_i64 w3
      simp at e e3
      obtain ⟨rfl, rfl, rfl, rfl, rfl, rfl, rfl⟩ := e
      subst e3
      exact ⟨I, AL, AG, AO, AB, AC, AN, cL, cG, cO, cB, cC, cN, L, G, O, D, C, N, AS, AI, cS, cI, S, S2, i, rfl, hRA, ⟨by omega, by omega, by omega, by omega⟩, ⟨r1, n1, m1, z1⟩, ⟨r2, n2, m2, z2⟩, hb⟩
set_option maxRecDepth 100000 in
theorem opened67 {H : Type} {enc : TypeId × Value → H} {W : World} {fuel : Nat} {cs : Array Value} {y : DataW H × List MemPlace} (hsz : cs.size = Try.prog.cellsOf 67) (h : DataW.trod enc Try.prog W 0 (fun _ => true) true fuel 67 (Value.agg cs).cells.toList = some y) :
    ∃ (I : Int) (AL AG AO AB AC AN : Option Addr) (cL cG cO cB cC cN : Nat) (L G : List Pr) (O D C : List Int) (N : List Nm), ∃ (AS AI : Option Addr) (ks ki : Nat) (st inp : List Bool) (x z : Int), cs = #[.int .i64 I, .slice AL L.length cL, .slice AG G.length cG, .slice AO O.length cO, .slice AB D.length cB, .slice AC C.length cC, .slice AN N.length cN, .int .i64 x, .int .i64 z, .slice AS st.length ks, .slice AI inp.length ki] ∧ RA W W.heap.size AL AG AO AB AC AN L G O D C N ∧ (O.length ≤ maxLen ∧ D.length ≤ maxLen ∧ C.length ≤ maxLen ∧ N.length ≤ maxLen ∧ G.length ≤ cG ∧ cG ≤ maxLen ∧ (AG = none → cG = 0)) ∧
      (RB W W.heap.size AS st ∧ st.length ≤ ks ∧ ks ≤ maxLen ∧ (AS = none → ks = 0)) ∧ (RB W W.heap.size AI inp ∧ inp.length ≤ ki ∧ ki ≤ maxLen ∧ (AI = none → ki = 0)) ∧ (-9223372036854775808 ≤ x ∧ x ≤ 9223372036854775807) ∧ -9223372036854775808 ≤ z ∧ z ≤ 9223372036854775807 := by
  obtain ⟨l⟩ := cs
  match l, hsz.trans cells67 with
  | [v0, v1, v2, v3, v4, v5, v6, v7, v8, v9, v10], _ =>
    obtain ⟨xs, k, hk, hxy, _, hxl, hf⟩ := DataW.trod_struct Try.underlying67 h
    match xs, hxl with
    | [y0, y1, y2, y3], _ =>
      have g0 := hf 0 _ rfl
      have g1 := hf 1 _ rfl
      have g2 := hf 2 _ rfl
      have g3 := hf 3 _ rfl
      simp [cells27, cells28, cells58, Value.cells] at g0 g1 g2 g3
      obtain ⟨I, AL, AG, AO, AB, AC, AN, cL, cG, cO, cB, cC, cN, L, G, O, D, C, N, e, hRA, ⟨nL, nG, nO, nD, nC, nN⟩, ⟨mL, mG, mO, mD, mC, mN⟩, zG, zO, zB, zC⟩ := opened_aig g0
      obtain ⟨xs1, k1, hk1, hxy1, _, hxl1, hf1⟩ := DataW.trod_struct Try.underlying58 g1
      match xs1, hxl1 with
      | [w0, w1], _ =>
        have f0 := hf1 0 _ rfl
        have f1 := hf1 1 _ rfl
        simp [cells3] at f0 f1
        obtain ⟨i1, e1, _, w1⟩ := DataW.trod_int Try.underlying3 f0
        obtain ⟨i2, e2, _, w2⟩ := DataW.trod_int Try.underlying3 f1
        have hb1 := bounds_i64 w1
        have hb2 := bounds_i64 w2
        obtain ⟨AS, cS, S, rfl, r1, n1, m1, z1⟩ := opened28 g2
        obtain ⟨AI, cI, S2, rfl, r2, n2, m2, z2⟩ := opened28 g3
        simp at e e1 e2
        obtain ⟨rfl, rfl, rfl, rfl, rfl, rfl, rfl⟩ := e
        subst e1 e2
        exact ⟨I, AL, AG, AO, AB, AC, AN, cL, cG, cO, cB, cC, cN, L, G, O, D, C, N, AS, AI, cS, cI, S, S2, i1, i2, rfl, hRA, ⟨by omega, by omega, by omega, by omega, by omega, by omega, zG⟩, ⟨r1, n1, m1, z1⟩, ⟨r2, n2, m2, z2⟩, hb1, hb2⟩
end Go.Proofs.Ytkdocjcpehmljaa
