/-
  What is right.
  Which models may be asked about.
-/
import Derived.Test.YtkdocjcpehmljaaProg
import Derived.WalkKit
import Derived.WalkSpells
import Derived.WalkLawsBesides
import Derived.Lib.Hide
import Derived.BigQuiet
import Derived.Deep.QuietTactic
import Derived.Deep.RegionWith
import Derived.Deep.RegionHeld3
import Derived.Test.YtkdocjcpehmljaaQ06
import Derived.IntWalk
set_option linter.unusedVariables false
/- What is right. -/
namespace Go.Proofs.Ytkdocjcpehmljaa
open Go.RowKit
/-- What a latch may be at first. -/
def RsB (I : Int) (i : Nat) (y : Int) : Prop := y = 0 ∨ y = 1 ∨ y = 2 * (I + i + 1)
/-- What is right of a model. -/
def Rt (I : Int) (L G : List Pr) (O D C : List Int) (V : Int) : Prop :=
  0 ≤ I ∧ (∀ x ∈ O, 0 ≤ x ∧ x ≤ 2 * V + 1) ∧ (∀ x ∈ D, 0 ≤ x ∧ x ≤ 2 * V + 1) ∧ (∀ x ∈ C, 0 ≤ x ∧ x ≤ 2 * V + 1) ∧ (∀ i, i < L.length → 0 ≤ (L.getD i (0, 0)).1 ∧ (L.getD i (0, 0)).1 ≤ 2 * V + 1 ∧ RsB I i (L.getD i (0, 0)).2) ∧
    (∀ i, i < G.length → 0 ≤ (G.getD i (0, 0)).2 ∧ (G.getD i (0, 0)).2 ≤ (G.getD i (0, 0)).1 ∧ (G.getD i (0, 0)).1 < 2 * (I + L.length + i + 1))
set_option maxRecDepth 100000 in
set_option maxHeartbeats 8000000 in
theorem Right_any (I : Int) (AL AG AO AB AC AN : Option Addr) (cL cG cO cB cC cN : Nat) (L G : List Pr) (O D C : List Int) (N : List Nm) (w : World) (hA : RA w w.heap.size AL AG AO AB AC AN L G O D C N) (V : Int) (hV : I + L.length + G.length = V) (lO : O.length ≤ maxLen) (lD : D.length ≤ maxLen) (lC : C.length ≤ maxLen) (lN : N.length ≤ maxLen) :
    Calls Try.prog 26 #[.agg #[.int .i64 I, .slice AL L.length cL, .slice AG G.length cG, .slice AO O.length cO, .slice AB D.length cB, .slice AC C.length cC, .slice AN N.length cN]] w (RetP w (Rt I L G O D C V)) := by
  have hb := bal (Below.refl w.heap.size w) (.cells #[.int .i64 I, .slice AL L.length cL, .slice AG G.length cG, .slice AO O.length cO, .slice AB D.length cB, .slice AC C.length cC, .slice AN N.length cN] 27)
  have CV : Hid (0 ≤ I → I ≤ 20000 → L.length ≤ 20000 → G.length ≤ 20000 → ∀ wx, Calls Try.prog 36 #[.agg #[.int .i64 I, .slice AL L.length cL, .slice AG G.length cG, .slice AO O.length cO, .slice AB D.length cB, .slice AC C.length cC, .slice AN N.length cN]] wx (RetV wx (.int .i64 V))) := Lib.hid fun h0 h1 h2 h3 wx => by
    have := refVars_any I AL AG AO AB AC AN cL cG cO cB cC cN L G O D C N wx h0 (by omega) (by omega) (by omega)
    rwa [hV] at this
  have HA := Lib.hid hA
  have HV := Lib.hid hV
  have hk := KA.new w I AL AG AO AB AC AN cL cG cO cB cC cN L G O D C N
  have hs0 : (w.alloc (.cells #[.int .i64 I, .slice AL L.length cL, .slice AG G.length cG, .slice AO O.length cO, .slice AB D.length cB, .slice AC C.length cC, .slice AN N.length cN] 27)).heap.size = w.heap.size + 1 := by simp
  have HS := Lib.hid hs0
  unfold maxLen at lO lD lC lN
  clear hA hV hs0
  have hc : (decide (I < 0) = true) ∨ ((decide (I < 0) = false) ∧ ((decide ((20000 : Int) < I) = true) ∨ ((decide ((20000 : Int) < I) = false) ∧ ((decide ((20000 : Int) < (L.length : Int)) = true ∧ decide (20000 < L.length) = true) ∨ ((decide ((20000 : Int) < (L.length : Int)) = false ∧ decide (20000 < L.length) = false) ∧ ((decide ((20000 : Int) < (G.length : Int)) = true ∧ decide (20000 < G.length) = true) ∨ ((decide ((20000 : Int) < (G.length : Int)) = false ∧ decide (20000 < G.length) = false) ∧ ((decide ((20000 : Int) < V) = true) ∨ ((decide ((20000 : Int) < V) = false) ∧ ((decide ((2000 : Int) < (N.length : Int)) = true ∧ decide (2000 < N.length) = true) ∨ ((decide ((2000 : Int) < (N.length : Int)) = false ∧ decide (2000 < N.length) = false) ∧ (True)))))))))))) := by
    simp only [decide_eq_true_eq, decide_eq_false_iff_not, and_true]; omega
  rcases hc with e0 | ⟨f0, e1 | ⟨f1, ⟨e2, e2b⟩ | ⟨⟨f2, f2b⟩, ⟨e3, e3b⟩ | ⟨⟨f3, f3b⟩, e4 | ⟨f4, ⟨e5, e5b⟩ | ⟨⟨f5, f5b⟩, hok⟩⟩⟩⟩⟩⟩
  · clear hk lO lD lC lN
    go_enter Try.func26, Try.ntmps26
    go_wp2
    go_ret
    exact ⟨false, rfl, (fun h => by cases h), hb⟩
  · clear hk lO lD lC lN
    go_enter Try.func26, Try.ntmps26
    go_wp2
    go_ret
    exact ⟨false, rfl, (fun h => by cases h), hb⟩
  · clear hk lO lD lC lN
    go_enter Try.func26, Try.ntmps26
    go_wp2
    go_ret
    exact ⟨false, rfl, (fun h => by cases h), hb⟩
  · clear hk lO lD lC lN
    go_enter Try.func26, Try.ntmps26
    go_wp2
    go_ret
    exact ⟨false, rfl, (fun h => by cases h), hb⟩
  · have i0 : 0 ≤ I := by simp only [decide_eq_false_iff_not] at f0; omega
    have i1 : I ≤ 20000 := by simp only [decide_eq_false_iff_not] at f1; omega
    have l2 : L.length ≤ 20000 := by simp only [decide_eq_false_iff_not] at f2b; omega
    have l3 : G.length ≤ 20000 := by simp only [decide_eq_false_iff_not] at f3b; omega
    have C1 := CV.out i0 i1 l2 l3 (w.alloc (.cells #[.int .i64 I, .slice AL L.length cL, .slice AG G.length cG, .slice AO O.length cO, .slice AB D.length cB, .slice AC C.length cC, .slice AN N.length cN] 27))
    have HB := Lib.hid hb
    clear hb lO lD lC lN hk
    go_enter Try.func26, Try.ntmps26
    go_wp2_with fail
    refine C1.mono ?_; rintro e u1 ⟨rfl, hu1⟩
    have HF := Lib.hid (HB.out.trans (hu1.mono HB.out.size))
    clear C1 hu1
    go_wp2
    go_ret
    exact ⟨false, rfl, (fun h => by cases h), HF.out⟩
  · have i0 : 0 ≤ I := by simp only [decide_eq_false_iff_not] at f0; omega
    have i1 : I ≤ 20000 := by simp only [decide_eq_false_iff_not] at f1; omega
    have l2 : L.length ≤ 20000 := by simp only [decide_eq_false_iff_not] at f2b; omega
    have l3 : G.length ≤ 20000 := by simp only [decide_eq_false_iff_not] at f3b; omega
    have C1 := CV.out i0 i1 l2 l3 (w.alloc (.cells #[.int .i64 I, .slice AL L.length cL, .slice AG G.length cG, .slice AO O.length cO, .slice AB D.length cB, .slice AC C.length cC, .slice AN N.length cN] 27))
    have HB := Lib.hid hb
    clear hb lO lD lC lN hk
    go_enter Try.func26, Try.ntmps26
    go_wp2_with fail
    refine C1.mono ?_; rintro e u1 ⟨rfl, hu1⟩
    have hk1 := (KA.new w I AL AG AO AB AC AN cL cG cO cB cC cN L G O D C N).nx hu1 (by simp)
    obtain ⟨g0, g1, g2, g3, g4, g5, g6⟩ := hk1
    have HF := Lib.hid (HB.out.trans (hu1.mono HB.out.size))
    clear C1 hu1
    go_wp2
    go_ret
    exact ⟨false, rfl, (fun h => by cases h), HF.out⟩
  · have i0 : 0 ≤ I := by simp only [decide_eq_false_iff_not] at f0; omega
    have i1 : I ≤ 20000 := by simp only [decide_eq_false_iff_not] at f1; omega
    have l2 : L.length ≤ 20000 := by simp only [decide_eq_false_iff_not] at f2b; omega
    have l3 : G.length ≤ 20000 := by simp only [decide_eq_false_iff_not] at f3b; omega
    have v0 : 0 ≤ V := by have := HV.out; omega
    have v1 : V ≤ 20000 := by simp only [decide_eq_false_iff_not] at f4; omega
    have C0 := Lib.hid (CV.out i0 i1 l2 l3)
    have C1 := C0.out (w.alloc (.cells #[.int .i64 I, .slice AL L.length cL, .slice AG G.length cG, .slice AO O.length cO, .slice AB D.length cB, .slice AC C.length cC, .slice AN N.length cN] 27))
    have HB := Lib.hid hb
    have CL : Hid (∀ (A : Option Addr) (c : Nat) (l : List Int) (wx : World), RI wx wx.heap.size A l → l.length ≤ 9223372036854775807 → Calls Try.prog 37 #[.slice A l.length c, .int .i64 V] wx (RetP wx (l.length ≤ 2000 ∧ ∀ x ∈ l, 0 ≤ x ∧ x ≤ 2 * V + 1))) := Lib.hid fun A c l wx hr hl => lits_any A c l V wx hr (by unfold maxLen; omega) v0 v1
    have lO' := Lib.hid lO
    have lD' := Lib.hid lD
    have lC' := Lib.hid lC
    clear CV hb lO lD lC
    have hk0 := hk
    generalize hw0 : w.alloc (.cells #[.int .i64 I, .slice AL L.length cL, .slice AG G.length cG, .slice AO O.length cO, .slice AB D.length cB, .slice AC C.length cC, .slice AN N.length cN] 27) = w0 at hk0
    have HK := Lib.hid hk0
    have HW0 := Lib.hid hw0
    clear hk hk0 hw0
    go_enter Try.func26, Try.ntmps26
    go_wp2_with fail
    rw [HW0.out] at C1 ⊢
    refine C1.mono ?_; rintro e u1 ⟨rfl, hu1⟩
    have hS := HS.out
    rw [HW0.out] at hS
    have hb0 := HB.out
    rw [HW0.out] at hb0
    have hB0 := Lib.hid hb0
    have hSS := Lib.hid hS
    obtain ⟨g0, g1, g2, g3, g4, g5, g6⟩ := HK.out.nx hu1 (by omega)
    have HU1 := Lib.hid hu1
    have C2 := C0.out u1
    clear C1 hu1 C0 hS hb0 HS HB
    go_wp2_with fail
    refine C2.mono ?_; rintro e u2 ⟨rfl, hu2⟩
    have hU2 := bnx HU1.out hu2
    obtain ⟨k0, k1, k2, k3, k4, k5, k6⟩ := HK.out.nx hU2 (by have := hSS.out; omega)
    have HA2 := (HA.out.nx hB0.out).nx hU2
    have C3 := CL.out AO cO O u2 HA2.o lO'.out
    have HU2 := Lib.hid hU2
    clear C2 hu2 hU2 HU1 g0 g1 g2 g3 g4 g5 g6 HA2
    go_wp2_with fail
    refine C3.mono ?_; rintro e u3 ⟨xO, rfl, pO, hu3⟩
    have hU3 := bnx HU2.out hu3
    obtain ⟨g0, g1, g2, g3, g4, g5, g6⟩ := HK.out.nx hU3 (by have := hSS.out; omega)
    have HA3 := (HA.out.nx hB0.out).nx hU3
    have C4 := CL.out AB cB D u3 HA3.d lD'.out
    have HU3 := Lib.hid hU3
    have HPO := Lib.hid pO
    clear C3 hu3 hU3 HU2 k0 k1 k2 k3 k4 k5 k6 HA3 pO
    go_wp2_with fail
    refine C4.mono ?_; rintro e u4 ⟨xD, rfl, pD, hu4⟩
    have hU4 := bnx HU3.out hu4
    obtain ⟨k0, k1, k2, k3, k4, k5, k6⟩ := HK.out.nx hU4 (by have := hSS.out; omega)
    have HA4 := (HA.out.nx hB0.out).nx hU4
    have C5 := CL.out AC cC C u4 HA4.c lC'.out
    have HU4 := Lib.hid hU4
    have HPD := Lib.hid pD
    clear C4 hu4 hU4 HU3 g0 g1 g2 g3 g4 g5 g6 HA4 pD CL
    go_wp2_with fail
    refine C5.mono ?_; rintro e u5 ⟨xC, rfl, pC, hu5⟩
    have hU5 := bnx HU4.out hu5
    have HU5 := Lib.hid hU5
    have HPC := Lib.hid pC
    have HFB := Lib.hid (hB0.out.trans (hU5.mono hB0.out.size))
    clear C5 hu5 hU5 HU4 k0 k1 k2 k3 k4 k5 k6 pC
    cases xO
    · go_wp2
      go_ret
      exact ⟨false, rfl, (fun h => by cases h), HFB.out⟩
    cases xD
    · go_wp2
      go_ret
      exact ⟨false, rfl, (fun h => by cases h), HFB.out⟩
    cases xC
    · go_wp2
      go_ret
      exact ⟨false, rfl, (fun h => by cases h), HFB.out⟩
    have HP1 := Lib.hid (And.intro (HPO.out rfl).2 (And.intro (HPD.out rfl).2 (HPC.out rfl).2))
    have HUS := Lib.hid (show w.heap.size + 1 ≤ u5.heap.size by have := hSS.out; have := HU5.out.size; omega)
    clear HPO HPD HPC f0 f1 f2 f2b f3 f3b f4 f5 f5b hok
    go_wp2
    go_loopg [7] L.length (fun g s wr => ∃ j : Nat, j + g = L.length ∧ s = .int .i64 j ∧ Below w0.heap.size w0 wr ∧ Hid (∀ i, i < j → 0 ≤ (L.getD i (0, 0)).1 ∧ (L.getD i (0, 0)).1 ≤ 2 * V + 1 ∧ RsB I i (L.getD i (0, 0)).2))
    case atStart => exact ⟨0, by omega, rfl, HU5.out, Lib.hid (fun i hi => by omega)⟩
    case round =>
      obtain ⟨j, hj, rfl, hbel, HJ⟩ := hrel
      obtain ⟨k0, k1, k2, k3, k4, k5, k6⟩ := HK.out.nx hbel (by have := hSS.out; omega)
      have hfb := hB0.out.trans (hbel.mono hB0.out.size)
      cases gk with
      | zero =>
        have q1 : ¬ ((j : Int) < L.length) := by omega
        have q2 : ¬ (j < L.length) := by omega
        have HP2 : Hid (∀ i, i < L.length → 0 ≤ (L.getD i (0, 0)).1 ∧ (L.getD i (0, 0)).1 ≤ 2 * V + 1 ∧ RsB I i (L.getD i (0, 0)).2) := Lib.hid fun i hi => HJ.out i (by omega)
        have HBL := Lib.hid hbel
        clear HJ hfb hbel
        go_wp2
        go_loopg [9] G.length (fun g s wr => ∃ j : Nat, j + g = G.length ∧ s = .int .i64 j ∧ Below w0.heap.size w0 wr ∧ Hid (∀ i, i < j → 0 ≤ (G.getD i (0, 0)).2 ∧ (G.getD i (0, 0)).2 ≤ (G.getD i (0, 0)).1 ∧ (G.getD i (0, 0)).1 < 2 * (I + L.length + i + 1)))
        case atStart => exact ⟨0, by omega, rfl, HBL.out, Lib.hid (fun i hi => by omega)⟩
        case round =>
          clear k0 k1 k2 k3 k4 k5 k6
          obtain ⟨j, hj, rfl, hbel, HJ⟩ := hrel
          obtain ⟨k0, k1, k2, k3, k4, k5, k6⟩ := HK.out.nx hbel (by have := hSS.out; omega)
          have hfb := hB0.out.trans (hbel.mono hB0.out.size)
          cases gk with
          | zero =>
            have q1 : ¬ ((j : Int) < G.length) := by omega
            have q2 : ¬ (j < G.length) := by omega
            have HP3 : Hid (Rt I L G O D C V) := Lib.hid ⟨i0, HP1.out.1, HP1.out.2.1, HP1.out.2.2, HP2.out, fun i hi => HJ.out i (by omega)⟩
            have HBL := Lib.hid hbel
            clear HJ hfb hbel HP1 HP2
            go_wp2
            go_loopg [11] N.length (fun g s wr => ∃ j : Nat, j + g = N.length ∧ s = .int .i64 j ∧ Below w0.heap.size w0 wr)
            case atStart => exact ⟨0, by omega, rfl, HBL.out⟩
            case round =>
              clear k0 k1 k2 k3 k4 k5 k6
              obtain ⟨j, hj, rfl, hbel⟩ := hrel
              obtain ⟨k0, k1, k2, k3, k4, k5, k6⟩ := HK.out.nx hbel (by have := hSS.out; omega)
              have hfb := hB0.out.trans (hbel.mono hB0.out.size)
              cases gk with
              | zero =>
                have q1 : ¬ ((j : Int) < N.length) := by omega
                have q2 : ¬ (j < N.length) := by omega
                have HFZ := Lib.hid hfb
                clear hfb hbel
                go_wp2
                go_ret
                exact ⟨true, rfl, fun _ => HP3.out, HFZ.out⟩
              | succ gn =>
                have hjl : j < N.length := by omega
                have hjl' : (j : Int) < N.length := by omega
                obtain ⟨ad, rfl, hab, z0, z1, z2, z3⟩ := HA.out.n j hjl
                have hn0 : wr.cell? (ad.add (j * 3)) = some (.int .u8 ((N.getD j nm0).k.toNat : Int)) := (hfb.cell (by rw [block_add]; exact hab)).trans z0
                have hn1 : wr.cell? ⟨(ad.add (j * 3)).block, (ad.add (j * 3)).off + 1, none⟩ = some (.int .i64 (N.getD j nm0).at_) := (hfb.cell (by show (ad.add (j * 3)).block < _; rw [block_add]; exact hab)).trans z1
                have hn2 : wr.cell? ⟨(ad.add (j * 3)).block, (ad.add (j * 3)).off + 2, none⟩ = some (.string (N.getD j nm0).s) := (hfb.cell (by show (ad.add (j * 3)).block < _; rw [block_add]; exact hab)).trans z2
                have PV : Hid (∀ i, j = i + 1 → ∃ p : Nm, ∀ wx, Below w.heap.size w wx → wx.cell? (ad.add (i * 3)) = some (.int .u8 (p.k.toNat : Int)) ∧ wx.cell? ⟨(ad.add (i * 3)).block, (ad.add (i * 3)).off + 1, none⟩ = some (.int .i64 p.at_) ∧ wx.cell? ⟨(ad.add (i * 3)).block, (ad.add (i * 3)).off + 2, none⟩ = some (.string p.s)) := Lib.hid fun i hi => by
                  obtain ⟨ad', ea, hab', y0, y1, y2, _⟩ := HA.out.n i (by omega)
                  cases ea
                  exact ⟨_, fun wx hx => ⟨(hx.cell (by rw [block_add]; exact hab')).trans y0, (hx.cell (by show (ad.add (i * 3)).block < _; rw [block_add]; exact hab')).trans y1, (hx.cell (by show (ad.add (i * 3)).block < _; rw [block_add]; exact hab')).trans y2⟩⟩
                unfold maxLen at z3
                have CB : Hid (∀ p : Nm, ∀ wx, Calls Try.prog 41 #[.agg #[.int .u8 (p.k.toNat : Int), .int .i64 p.at_, .string p.s], .agg #[.int .u8 ((N.getD j nm0).k.toNat : Int), .int .i64 (N.getD j nm0).at_, .string (N.getD j nm0).s]] wx (RetP wx True)) := Lib.hid fun p wx => Behind_any p _ wx
                generalize N.getD j nm0 = nn at *
                obtain ⟨nk, na, ns⟩ := nn
                simp only at hn0 hn1 hn2 CB z3
                have CK : Hid (∀ wx, Calls Try.prog 40 #[.int .u8 (nk.toNat : Int)] wx (RetN wx)) := Lib.hid fun wx => kind_any _ wx
                generalize (nk.toNat : Int) = q at *
                have CN := IsName_any ns (wr.alloc (.cells #[.int .u8 q, .int .i64 na, .string ns] 84)) (by omega)
                have hw1 : w.heap.size < wr.heap.size := by have := hbel.size; have := hSS.out; omega
                have hba := hbel.alloc hbel.size (.cells #[.int .u8 q, .int .i64 na, .string ns] 84)
                have ha0 : (wr.alloc (.cells #[.int .u8 q, .int .i64 na, .string ns] 84)).cell? ⟨wr.heap.size, 0, none⟩ = some (.int .u8 q) := by go_simp
                have ha1 : (wr.alloc (.cells #[.int .u8 q, .int .i64 na, .string ns] 84)).cell? ⟨wr.heap.size, 1, none⟩ = some (.int .i64 na) := by go_simp
                have ha2 : (wr.alloc (.cells #[.int .u8 q, .int .i64 na, .string ns] 84)).cell? ⟨wr.heap.size, 2, none⟩ = some (.string ns) := by go_simp
                have has : (wr.alloc (.cells #[.int .u8 q, .int .i64 na, .string ns] 84)).heap.size = wr.heap.size + 1 := by simp
                have HAS := Lib.hid has
                have hwr := HK.out.nx hba (by have := hSS.out; omega)
                have HKW := Lib.hid hwr
                have HBA := Lib.hid hba
                have HFA := Lib.hid (hB0.out.trans (hba.mono hB0.out.size))
                have HA3 := Lib.hid (And.intro ha0 (And.intro ha1 ha2))
                have hz3 : ns.size ≤ 9223372036854775807 := by omega
                clear z0 z1 z2 z3 hab hfb hbel ha0 ha1 ha2 hba has hwr
                go_wp2_with fail
                refine CN.mono ?_; rintro e wq ⟨isn, rfl, rfl⟩
                clear CN hn0 hn1 hn2 k0 k1 k2 k3 k4 k5 k6
                generalize hwa : wr.alloc (.cells #[.int .u8 q, .int .i64 na, .string ns] 84) = wa at *
                obtain ⟨g, hg⟩ : ∃ g, wr.heap.size = g := ⟨_, rfl⟩
                rw [hg] at HA3 HAS ⊢
                have HHK : Hid (∀ wx, Below wa.heap.size wa wx → (wx.cell? ⟨g, 0, none⟩ = some (.int .u8 q) ∧ wx.cell? ⟨g, 1, none⟩ = some (.int .i64 na) ∧ wx.cell? ⟨g, 2, none⟩ = some (.string ns)) ∧ KA wx w.heap.size I AL AG AO AB AC (some ad) cL cG cO cB cC cN L G O D C N) := Lib.hid fun wx hx => ⟨⟨(hx.cell (p := ⟨g, 0, none⟩) (by show g < _; have := HAS.out; omega)).trans HA3.out.1, (hx.cell (p := ⟨g, 1, none⟩) (by show g < _; have := HAS.out; omega)).trans HA3.out.2.1, (hx.cell (p := ⟨g, 2, none⟩) (by show g < _; have := HAS.out; omega)).trans HA3.out.2.2⟩, HKW.out.nx hx (by have := HAS.out; omega)⟩
                obtain ⟨⟨a0, a1, a2⟩, ⟨k0, k1, k2, k3, k4, k5, k6⟩⟩ := HHK.out wa (Below.refl _ _)
                cases isn
                · have HFD := Lib.hid (HFA.out.drew)
                  clear HHK CB CK PV hwa
                  go_wp2_with fail
                  go_quiet (fail)
                  go_wp2
                  go_ret
                  exact ⟨false, rfl, (fun h => by cases h), by first | exact HFA.out.trans ((drw _).mono HFA.out.size) | exact HFD.out⟩
                by_cases hna : na < 0
                · have dna : decide (na < 0) = true := decide_eq_true hna
                  clear HHK CB CK PV hwa
                  go_wp2_with fail
                  go_quiet (fail)
                  go_wp2
                  go_ret
                  exact ⟨false, rfl, (fun h => by cases h), by first | exact HFA.out.trans ((drw _).mono HFA.out.size)⟩
                have dna : decide (na < 0) = false := decide_eq_false hna
                have hU := (Below.refl wa.heap.size wa).drew
                obtain ⟨⟨b0, b1, b2⟩, ⟨m0, m1, m2, m3, m4, m5, m6⟩⟩ := HHK.out _ hU
                have K0 := And.intro b0 (And.intro b1 (And.intro m0 (And.intro m1 (And.intro m2 (And.intro m3 (And.intro m4 (And.intro m5 m6)))))))
                have CM : Hid (∀ k wx, Calls Try.prog 39 #[.agg #[.int .i64 I, .slice AL L.length cL, .slice AG G.length cG, .slice AO O.length cO, .slice AB D.length cB, .slice AC C.length cC, .slice (some ad) N.length cN], .int .i64 k] wx (RetN wx)) := Lib.hid fun k wx => many_any I AL AG AO AB AC (some ad) cL cG cO cB cC cN L G O D C N k wx
                clear a0 a1 a2 k0 k1 k2 k3 k4 k5 k6 b0 b1 b2 m0 m1 m2 m3 m4 m5 m6 hwa
                go_wp2_with fail
                go_region_held3 (fun w' => w'.cell? ⟨g, 0, none⟩ = some (.int .u8 q) ∧ w'.cell? ⟨g, 1, none⟩ = some (.int .i64 na) ∧ w'.cell? ⟨w.heap.size, 0, none⟩ = some (.int .i64 I) ∧ w'.cell? ⟨w.heap.size, 1, none⟩ = some (.slice AL L.length cL) ∧ w'.cell? ⟨w.heap.size, 2, none⟩ = some (.slice AG G.length cG) ∧ w'.cell? ⟨w.heap.size, 3, none⟩ = some (.slice AO O.length cO) ∧ w'.cell? ⟨w.heap.size, 4, none⟩ = some (.slice AB D.length cB) ∧ w'.cell? ⟨w.heap.size, 5, none⟩ = some (.slice AC C.length cC) ∧ w'.cell? ⟨w.heap.size, 6, none⟩ = some (.slice (some ad) N.length cN))
                  (first | exact K0 | exact K1 | exact K2)
                  (first
                    | (go_at_call 40; ((with_reducible refine (CK.out _).mono ?_); rintro e u1 ⟨kk, rfl, hu1⟩; have U1 := bnx hU hu1; have P1 := HHK.out _ U1; have K1 := And.intro P1.1.1 (And.intro P1.1.2.1 (And.intro P1.2.k0 (And.intro P1.2.k1 (And.intro P1.2.k2 (And.intro P1.2.k3 (And.intro P1.2.k4 (And.intro P1.2.k5 P1.2.k6))))))); clear P1))
                    | (go_at_call 39; ((with_reducible refine (CM.out _ _).mono ?_); rintro e u2 ⟨mm, rfl, hu2⟩; have U2 := bnx U1 hu2; have P2 := HHK.out _ U2; have K2 := And.intro P2.1.1 (And.intro P2.1.2.1 (And.intro P2.2.k0 (And.intro P2.2.k1 (And.intro P2.2.k2 (And.intro P2.2.k3 (And.intro P2.2.k4 (And.intro P2.2.k5 P2.2.k6))))))); clear P2)))
                have HU2 := Lib.hid U2
                have HF2 := Lib.hid (bnx HFA.out U2)
                clear K0 K1 K2 U1 U2 hu1 hu2 hU CK CM
                by_cases hmm : mm ≤ na
                · have dmm : decide (mm ≤ na) = true := decide_eq_true hmm
                  clear HHK PV CB
                  go_wp2
                  go_ret
                  exact ⟨false, rfl, (fun h => by cases h), HF2.out⟩
                have dmm : decide (mm ≤ na) = false := decide_eq_false hmm
                obtain ⟨⟨b0, b1, b2⟩, ⟨m0, m1, m2, m3, m4, m5, m6⟩⟩ := HHK.out _ HU2.out
                have HW2 := Lib.hid (HBA.out.trans (HU2.out.mono HBA.out.size))
                cases j with
                | zero =>
                  clear HHK PV CB
                  go_wp2
                  go_roundg gn
                  case measure => omega
                  case rel => exact ⟨1, by omega, by go_num, HW2.out⟩
                | succ i =>
                  obtain ⟨p, hp⟩ := PV.out i rfl
                  have CB1 := Lib.hid (CB.out p)
                  have HH2 : Hid (∀ wx, Below u2.heap.size u2 wx → wx.cell? ⟨w.heap.size, 6, none⟩ = some (.slice (some ad) N.length cN) ∧ (wx.cell? (ad.add (i * 3)) = some (.int .u8 (p.k.toNat : Int)) ∧ wx.cell? ⟨(ad.add (i * 3)).block, (ad.add (i * 3)).off + 1, none⟩ = some (.int .i64 p.at_) ∧ wx.cell? ⟨(ad.add (i * 3)).block, (ad.add (i * 3)).off + 2, none⟩ = some (.string p.s)) ∧ (wx.cell? ⟨g, 0, none⟩ = some (.int .u8 q) ∧ wx.cell? ⟨g, 1, none⟩ = some (.int .i64 na) ∧ wx.cell? ⟨g, 2, none⟩ = some (.string ns))) := Lib.hid fun wx hx => ⟨(HHK.out wx (bnx HU2.out hx)).2.k6, hp wx (bnx HF2.out hx), (HHK.out wx (bnx HU2.out hx)).1⟩
                  obtain ⟨pk, pa, ps⟩ := p
                  simp only at CB1 HH2
                  generalize (pk.toNat : Int) = pq at *
                  have hV := (Below.refl u2.heap.size u2).drew
                  have K0 := HH2.out _ hV
                  have hil : (i : Int) < N.length := by omega
                  have hwr1 : IntKind.i64.wrap ((i : Int) + 1 - 1) = (i : Int) := by rw [IntWalk.i64_in _ (by omega)]; omega
                  have hwr3 : IntKind.i64.wrap (i : Int) = (i : Int) := IntWalk.i64_in _ (by omega)
                  have hwr2 : IntKind.i64.wrap (((i + 1 : Nat) : Int) - 1) = (i : Int) := by rw [IntWalk.i64_in _ (by omega)]; omega
                  clear HHK PV CB hp b0 b1 b2 m0 m1 m2 m3 m4 m5 m6
                  go_wp2_with fail
                  go_region_held3 (fun w' => w'.cell? ⟨w.heap.size, 6, none⟩ = some (.slice (some ad) N.length cN) ∧ (w'.cell? (ad.add (i * 3)) = some (.int .u8 pq) ∧ w'.cell? ⟨(ad.add (i * 3)).block, (ad.add (i * 3)).off + 1, none⟩ = some (.int .i64 pa) ∧ w'.cell? ⟨(ad.add (i * 3)).block, (ad.add (i * 3)).off + 2, none⟩ = some (.string ps)) ∧ (w'.cell? ⟨g, 0, none⟩ = some (.int .u8 q) ∧ w'.cell? ⟨g, 1, none⟩ = some (.int .i64 na) ∧ w'.cell? ⟨g, 2, none⟩ = some (.string ns)))
                    (first | exact K0 | exact K1)
                    (first
                      | (go_at_call 41; ((with_reducible refine (CB1.out _).mono ?_); rintro e u3 ⟨bb, rfl, _, hu3⟩; have U3 := bnx hV hu3; have K1 := HH2.out _ U3)))
                  have HF3 := Lib.hid (bnx HF2.out U3)
                  have HW3 := Lib.hid (HW2.out.trans (U3.mono HW2.out.size))
                  clear K0 K1 hV U3 hu3 HH2 CB1
                  cases bb
                  · go_wp2
                    go_ret
                    exact ⟨false, rfl, (fun h => by cases h), HF3.out⟩
                  · go_wp2
                    go_roundg gn
                    case measure => omega
                    case rel => exact ⟨i + 1 + 1, by omega, by go_num, HW3.out⟩
          | succ g =>
            have hjl : j < G.length := by omega
            have hjl' : (j : Int) < G.length := by omega
            obtain ⟨ad, rfl, hab, hp0, hp1⟩ := HA.out.g j hjl
            have hp0' : wr.cell? (ad.add (j * 2)) = some (.int .i64 (G.getD j (0, 0)).1) := (hfb.cell (by rw [block_add]; exact hab)).trans hp0
            have hp1' : wr.cell? ⟨(ad.add (j * 2)).block, (ad.add (j * 2)).off + 1, none⟩ = some (.int .i64 (G.getD j (0, 0)).2) := (hfb.cell (by show (ad.add (j * 2)).block < _; rw [block_add]; exact hab)).trans hp1
            have HX : Hid (0 ≤ (G.getD j (0, 0)).2 → (G.getD j (0, 0)).2 ≤ (G.getD j (0, 0)).1 → (G.getD j (0, 0)).1 < 2 * (I + L.length + j + 1) → ∀ i, i < j + 1 → 0 ≤ (G.getD i (0, 0)).2 ∧ (G.getD i (0, 0)).2 ≤ (G.getD i (0, 0)).1 ∧ (G.getD i (0, 0)).1 < 2 * (I + L.length + i + 1)) := Lib.hid fun h1 h2 h3 i hi => by
              by_cases e : i = j
              · subst e; exact ⟨h1, h2, h3⟩
              · exact HJ.out i (by omega)
            generalize G.getD j (0, 0) = p at *
            obtain ⟨x, y⟩ := p
            simp only at hp0' hp1' HX
            have hsz : wr.heap.size = wr.heap.size := rfl
            have hw1 : w.heap.size < wr.heap.size := by have := hbel.size; have := hSS.out; omega
            have HFX := Lib.hid (hfb.alloc hfb.size (.cells #[.int .i64 x, .int .i64 y] 58))
            have HBX := Lib.hid (hbel.alloc hbel.size (.cells #[.int .i64 x, .int .i64 y] 58))
            clear hp0 hp1 HJ hfb hbel hsz
            by_cases h1 : y < 0
            · have d1 : decide (y < 0) = true := decide_eq_true h1
              go_wp2
              go_ret
              exact ⟨false, rfl, (fun h => by cases h), HFX.out⟩
            have d1 : decide (y < 0) = false := decide_eq_false h1
            by_cases h2 : x < y
            · have d2 : decide (x < y) = true := decide_eq_true h2
              go_wp2
              go_ret
              exact ⟨false, rfl, (fun h => by cases h), HFX.out⟩
            have d2 : decide (x < y) = false := decide_eq_false h2
            by_cases h3 : 2 * (I + L.length + j + 1) ≤ x
            · have d3 : decide (2 * (I + L.length + j + 1) ≤ x) = true := decide_eq_true h3
              go_wp2
              go_ret
              exact ⟨false, rfl, (fun h => by cases h), HFX.out⟩
            have d3 : decide (2 * (I + L.length + j + 1) ≤ x) = false := decide_eq_false h3
            have HY := Lib.hid (HX.out (by omega) (by omega) (by omega))
            clear HX
            go_wp2
            go_roundg g
            case measure => omega
            case rel => exact ⟨j + 1, by omega, by go_num, HBX.out, HY⟩
      | succ g =>
        have hjl : j < L.length := by omega
        have hjl' : (j : Int) < L.length := by omega
        obtain ⟨ad, rfl, hab, hp0, hp1⟩ := HA.out.l j hjl
        have hp0' : wr.cell? (ad.add (j * 2)) = some (.int .i64 (L.getD j (0, 0)).1) := (hfb.cell (by rw [block_add]; exact hab)).trans hp0
        have hp1' : wr.cell? ⟨(ad.add (j * 2)).block, (ad.add (j * 2)).off + 1, none⟩ = some (.int .i64 (L.getD j (0, 0)).2) := (hfb.cell (by show (ad.add (j * 2)).block < _; rw [block_add]; exact hab)).trans hp1
        have HX : Hid (0 ≤ (L.getD j (0, 0)).1 → (L.getD j (0, 0)).1 ≤ 2 * V + 1 → RsB I j (L.getD j (0, 0)).2 → ∀ i, i < j + 1 → 0 ≤ (L.getD i (0, 0)).1 ∧ (L.getD i (0, 0)).1 ≤ 2 * V + 1 ∧ RsB I i (L.getD i (0, 0)).2) := Lib.hid fun h1 h2 h3 i hi => by
          by_cases e : i = j
          · subst e; exact ⟨h1, h2, h3⟩
          · exact HJ.out i (by omega)
        generalize L.getD j (0, 0) = p at *
        obtain ⟨x, y⟩ := p
        simp only at hp0' hp1' HX
        have hw1 : w.heap.size < wr.heap.size := by have := hbel.size; have := hSS.out; omega
        have HFX := Lib.hid (hfb.alloc hfb.size (.cells #[.int .i64 x, .int .i64 y] 63))
        have HBX := Lib.hid (hbel.alloc hbel.size (.cells #[.int .i64 x, .int .i64 y] 63))
        clear hp0 hp1 HJ hfb hbel
        by_cases h1 : x < 0
        · have d1 : decide (x < 0) = true := decide_eq_true h1
          go_wp2
          go_ret
          exact ⟨false, rfl, (fun h => by cases h), HFX.out⟩
        have d1 : decide (x < 0) = false := decide_eq_false h1
        by_cases h2 : 2 * V + 1 < x
        · have d2 : decide (2 * V + 1 < x) = true := decide_eq_true h2
          go_wp2
          go_ret
          exact ⟨false, rfl, (fun h => by cases h), HFX.out⟩
        have d2 : decide (2 * V + 1 < x) = false := decide_eq_false h2
        have HY0 := Lib.hid (HX.out (by omega) (by omega))
        clear HX
        by_cases h3 : y = 0
        · have HY := Lib.hid (HY0.out (.inl h3))
          clear HY0
          subst h3
          go_wp2
          go_roundg g
          case measure => omega
          case rel => exact ⟨j + 1, by omega, by go_num, HBX.out, HY⟩
        have d3 : (y != 0) = true := by simpa using h3
        by_cases h4 : y = 1
        · have HY := Lib.hid (HY0.out (.inr (.inl h4)))
          clear HY0
          subst h4
          go_wp2
          go_roundg g
          case measure => omega
          case rel => exact ⟨j + 1, by omega, by go_num, HBX.out, HY⟩
        have d4 : (y != 1) = true := by simpa using h4
        by_cases h5 : y = 2 * (I + j + 1)
        · have HY := Lib.hid (HY0.out (.inr (.inr h5)))
          clear HY0
          have d5 : (y != 2 * (I + (j : Int) + 1)) = false := by simpa using h5
          clear h5
          go_wp2
          go_roundg g
          case measure => omega
          case rel => exact ⟨j + 1, by omega, by go_num, HBX.out, HY⟩
        have d5 : (y != 2 * (I + (j : Int) + 1)) = true := by simpa using h5
        go_wp2
        go_ret
        exact ⟨false, rfl, (fun h => by cases h), HFX.out⟩
end Go.Proofs.Ytkdocjcpehmljaa
/- Which models may be asked about. -/
namespace Go.Proofs.Ytkdocjcpehmljaa
open Go.RowKit
set_option maxHeartbeats 2000000 in
theorem May_any (I : Int) (AL AG AO AB AC AN : Option Addr) (cL cG cO cB cC cN : Nat) (L G : List Pr) (O D C : List Int) (N : List Nm) (w : World) (hA : RA w w.heap.size AL AG AO AB AC AN L G O D C N) (lO : O.length ≤ maxLen) (lD : D.length ≤ maxLen) (lC : C.length ≤ maxLen) (lN : N.length ≤ maxLen) :
    Calls Try.prog 11 #[.agg #[.int .i64 I, .slice AL L.length cL, .slice AG G.length cG, .slice AO O.length cO, .slice AB D.length cB, .slice AC C.length cC, .slice AN N.length cN]] w (RetP w (Md I L G O D C ∧ I ≤ 40 ∧ L.length ≤ 40 ∧ G.length ≤ 40 ∧ O.length ≤ 40 ∧ D.length ≤ 40 ∧ C.length ≤ 40 ∧ ∀ i, i < L.length → (L.getD i (0, 0)).2 = 0 ∨ (L.getD i (0, 0)).2 = 1 ∨ 2 ≤ (L.getD i (0, 0)).2)) := by
  have hb := bal (Below.refl w.heap.size w) (.cells #[.int .i64 I, .slice AL L.length cL, .slice AG G.length cG, .slice AO O.length cO, .slice AB D.length cB, .slice AC C.length cC, .slice AN N.length cN] 27)
  have hs0 : (w.alloc (.cells #[.int .i64 I, .slice AL L.length cL, .slice AG G.length cG, .slice AO O.length cO, .slice AB D.length cB, .slice AC C.length cC, .slice AN N.length cN] 27)).heap.size = w.heap.size + 1 := by simp
  have hk := KA.new w I AL AG AO AB AC AN cL cG cO cB cC cN L G O D C N
  have CS := Small_any I AL AG AO AB AC AN cL cG cO cB cC cN L G O D C N (w.alloc (.cells #[.int .i64 I, .slice AL L.length cL, .slice AG G.length cG, .slice AO O.length cO, .slice AB D.length cB, .slice AC C.length cC, .slice AN N.length cN] 27)) (hA.nx hb).n
  have CR : Hid (∀ wx, Below w.heap.size w wx → Calls Try.prog 26 #[.agg #[.int .i64 I, .slice AL L.length cL, .slice AG G.length cG, .slice AO O.length cO, .slice AB D.length cB, .slice AC C.length cC, .slice AN N.length cN]] wx (RetP wx (Rt I L G O D C (I + L.length + G.length)))) := Lib.hid fun wx hx => Right_any I AL AG AO AB AC AN cL cG cO cB cC cN L G O D C N wx (hA.nx hx) _ rfl lO lD lC lN
  obtain ⟨P, hP⟩ : ∃ P : Prop, P = (Md I L G O D C ∧ I ≤ 40 ∧ L.length ≤ 40 ∧ G.length ≤ 40 ∧ O.length ≤ 40 ∧ D.length ≤ 40 ∧ C.length ≤ 40 ∧ ∀ i, i < L.length → (L.getD i (0, 0)).2 = 0 ∨ (L.getD i (0, 0)).2 = 1 ∨ 2 ≤ (L.getD i (0, 0)).2) := ⟨_, rfl⟩
  rw [← hP]
  have HP := Lib.hid hP
  have HB := Lib.hid hb
  have HK := Lib.hid hk
  have HS := Lib.hid hs0
  clear hA hP hb hk hs0
  go_enter Try.func11, Try.ntmps11
  go_wp2_with fail
  refine CS.mono ?_; rintro e u1 ⟨b1, rfl, p1, hu1⟩
  obtain ⟨g0, g1, g2, g3, g4, g5, g6⟩ := HK.out.nx hu1 (by have := HS.out; omega)
  have hU1 := HB.out.trans (hu1.mono HB.out.size)
  have CR1 := CR.out u1 hU1
  have HU1 := Lib.hid hU1
  have HP1 := Lib.hid p1
  clear CS hu1 hU1 p1
  go_wp2_with fail
  refine CR1.mono ?_; rintro e u2 ⟨b2, rfl, p2, hu2⟩
  have HU2 := Lib.hid (bnx HU1.out hu2)
  have HP2 := Lib.hid p2
  clear CR1 hu2 p2 g0 g1 g2 g3 g4 g5 g6
  cases b1
  · go_wp2
    go_ret
    exact ⟨false, rfl, (fun h => by cases h), HU2.out⟩
  · go_wp2
    go_ret
    refine ⟨b2, rfl, fun hb2 => ?_, HU2.out⟩
    rw [HP.out]
    obtain ⟨s1, s2, s3, s4, s5, s6, s7⟩ := HP1.out (by simp)
    obtain ⟨r0, r1, r2, r3, r4, r5⟩ := HP2.out hb2
    refine ⟨⟨r0, by omega, by omega, by omega, by omega, by omega, by omega, fun x hx => ?_, fun x hx => ?_, fun x hx => ?_, fun p hp => ?_, fun i hi => ?_⟩, s1, s2, s3, s4, s5, s6, fun i hi => by have h := (r4 i hi).2.2; unfold RsB at h; omega⟩
    · have := r1 x hx; omega
    · have := r2 x hx; omega
    · have := r3 x hx; omega
    · obtain ⟨i, hi, rfl⟩ := List.getElem_of_mem hp
      have := r4 i hi
      simp [List.getD_eq_getElem?_getD, hi] at this
      omega
    · have := r5 i hi
      omega
end Go.Proofs.Ytkdocjcpehmljaa
