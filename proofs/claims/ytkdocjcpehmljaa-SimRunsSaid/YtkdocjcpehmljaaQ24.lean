/-
  One statement's walk: SimRuns.
  How the argument of SimRuns is opened.
-/
import Derived.Test.YtkdocjcpehmljaaProg
import Derived.WalkKit
import Derived.WalkSpells
import Derived.WalkLawsBesides
import Derived.Lib.Hide
import Derived.BigQuiet
import Derived.Deep.QuietTactic
import Derived.Deep.RegionWith
import Derived.Deep.RegionHeld3
import Derived.Test.YtkdocjcpehmljaaQ23
import Derived.Test.YtkdocjcpehmljaaQ21
import Derived.Test.YtkdocjcpehmljaaQ19
import Derived.IntWalk
import Derived.Test.YtkdocjcpehmljaaQ20
set_option linter.unusedVariables false
/- One statement's walk: SimRuns. -/
namespace Go.Proofs.Ytkdocjcpehmljaa
open Go.RowKit
set_option maxRecDepth 100000 in
set_option maxHeartbeats 8000000 in
theorem runs_any (I : Int) (AL AG AO AB AC AN : Option Addr) (cL cG cO cB cC cN : Nat) (L G : List Pr) (O D C : List Int) (N : List Nm) (AF AR AX : Option Addr) (cf cr cx : Nat) (fr ot : List Bool) (ins : List (List Bool)) (a8 : Int) (w : World) (hA : RA w w.heap.size AL AG AO AB AC AN L G O D C N) (lO : O.length ≤ maxLen) (lD : D.length ≤ maxLen) (lC : C.length ≤ maxLen) (lN : N.length ≤ maxLen)
    (hF : RB w w.heap.size AF fr) (hR : RR w w.heap.size AR ins) (hX : RB w w.heap.size AX ot) (nF : fr.length ≤ cf) (mF : cf ≤ maxLen) (zF : AF = none → cf = 0) (nR : ins.length ≤ cr) (mR : cr ≤ maxLen) (nX : ot.length ≤ cx) (mX : cx ≤ maxLen) (b0 : 0 ≤ a8) (b1 : a8 ≤ 255) :
    Calls Try.prog 5 #[.agg #[.int .i64 I, .slice AL L.length cL, .slice AG G.length cG, .slice AO O.length cO, .slice AB D.length cB, .slice AC C.length cC, .slice AN N.length cN, .slice AF fr.length cf, .slice AR ins.length cr, .int .u8 a8, .slice AX ot.length cx]] w (RetV w (.bool true)) := by
  have hb := bal (bal (Below.refl w.heap.size w) (.cells #[.int .i64 I, .slice AL L.length cL, .slice AG G.length cG, .slice AO O.length cO, .slice AB D.length cB, .slice AC C.length cC, .slice AN N.length cN, .slice AF fr.length cf, .slice AR ins.length cr, .int .u8 a8, .slice AX ot.length cx] 61)) (.cells #[.int .i64 I, .slice AL L.length cL, .slice AG G.length cG, .slice AO O.length cO, .slice AB D.length cB, .slice AC C.length cC, .slice AN N.length cN] 27)
  have hk : KA ((w.alloc (.cells #[.int .i64 I, .slice AL L.length cL, .slice AG G.length cG, .slice AO O.length cO, .slice AB D.length cB, .slice AC C.length cC, .slice AN N.length cN, .slice AF fr.length cf, .slice AR ins.length cr, .int .u8 a8, .slice AX ot.length cx] 61)).alloc (.cells #[.int .i64 I, .slice AL L.length cL, .slice AG G.length cG, .slice AO O.length cO, .slice AB D.length cB, .slice AC C.length cC, .slice AN N.length cN] 27)) (w.heap.size + 1) I AL AG AO AB AC AN cL cG cO cB cC cN L G O D C N := by constructor <;> go_simp
  have hs0 : ((w.alloc (.cells #[.int .i64 I, .slice AL L.length cL, .slice AG G.length cG, .slice AO O.length cO, .slice AB D.length cB, .slice AC C.length cC, .slice AN N.length cN, .slice AF fr.length cf, .slice AR ins.length cr, .int .u8 a8, .slice AX ot.length cx] 61)).alloc (.cells #[.int .i64 I, .slice AL L.length cL, .slice AG G.length cG, .slice AO O.length cO, .slice AB D.length cB, .slice AC C.length cC, .slice AN N.length cN] 27)).heap.size = w.heap.size + 2 := by simp
  have HS0 := Lib.hid hs0
  have CSH := shown_any ((w.alloc (.cells #[.int .i64 I, .slice AL L.length cL, .slice AG G.length cG, .slice AO O.length cO, .slice AB D.length cB, .slice AC C.length cC, .slice AN N.length cN, .slice AF fr.length cf, .slice AR ins.length cr, .int .u8 a8, .slice AX ot.length cx] 61)).alloc (.cells #[.int .i64 I, .slice AL L.length cL, .slice AG G.length cG, .slice AO O.length cO, .slice AB D.length cB, .slice AC C.length cC, .slice AN N.length cN] 27))
  have HA := Lib.hid (hA.nx hb)
  have HB := Lib.hid hb
  have HK := Lib.hid hk
  have HF := Lib.hid (hF.nx hb)
  have HR := Lib.hid (hR.nx hb)
  have HX := Lib.hid (hX.nx hb)
  have HZF := Lib.hid (And.intro nF (And.intro mF zF))
  have CM := May2_any I AL AG AO AB AC AN cL cG cO cB cC cN L G O D C N
  have HCM := Lib.hid (fun wx h => CM wx h lO lD lC lN)
  have lf : fr.length ≤ 9223372036854775807 := by unfold maxLen at mF; omega
  have lx : ot.length ≤ 9223372036854775807 := by unfold maxLen at mX; omega
  have lr : ins.length ≤ maxLen := by omega
  have HNR := Lib.hid (And.intro nR mR)
  clear hA hb hk hs0 hF hR hX CM lO lD lC lN nF mF zF nR mR nX mX
  go_enter Try.func5, Try.ntmps5
  go_wp2_with fail
  refine CSH.mono ?_; rintro e u1 ⟨rfl, hu1⟩
  generalize ((w.alloc (.cells #[.int .i64 I, .slice AL L.length cL, .slice AG G.length cG, .slice AO O.length cO, .slice AB D.length cB, .slice AC C.length cC, .slice AN N.length cN, .slice AF fr.length cf, .slice AR ins.length cr, .int .u8 a8, .slice AX ot.length cx] 61)).alloc (.cells #[.int .i64 I, .slice AL L.length cL, .slice AG G.length cG, .slice AO O.length cO, .slice AB D.length cB, .slice AC C.length cC, .slice AN N.length cN] 27)) = w0 at *
  obtain ⟨k0, k1, k2, k3, k4, k5, k6⟩ := HK.out.nx hu1 (by have := HS0.out; omega)
  have HU1 := Lib.hid hu1
  have C1 := HCM.out u1 (HA.out.nx hu1)
  clear CSH hu1 HCM
  go_wp2_with fail
  refine C1.mono ?_; rintro e wz ⟨bm, rfl, pm, hu2⟩
  have hU2 := bnx HU1.out hu2
  have HU2 := Lib.hid hU2
  have HF2 := Lib.hid (HB.out.trans (hU2.mono HB.out.size))
  obtain ⟨g0, g1, g2, g3, g4, g5, g6⟩ := HK.out.nx hU2 (by have := HS0.out; omega)
  have HP := Lib.hid pm
  clear C1 hu2 hU2 pm k0 k1 k2 k3 k4 k5 k6
  cases bm
  · clear g0 g1 g2 g3 g4 g5 g6
    go_wp2
    go_ret
    exact ⟨rfl, HF2.out⟩
  have hMd := HP.out (by simp)
  have HM := Lib.hid hMd.1.1
  have HRT := Lib.hid hMd.2
  have x0 : L.length ≤ 40 := hMd.1.2.2.1
  have HI := Lib.hid (And.intro hMd.1.1.i0 hMd.1.2.1)
  clear HP hMd
  have c12 := Few_any AR cr 20 ins wz (HR.out.nx HU2.out) lr (by omega)
  obtain ⟨ff, hff⟩ : ∃ b, fewF 20 ins = b := ⟨_, rfl⟩
  rw [hff] at c12
  have HFF := Lib.hid hff
  clear hff
  go_wp2_with fail
  refine c12.mono ?_; rintro e u3 ⟨rfl, rfl⟩
  clear c12
  cases ff
  · clear g0 g1 g2 g3 g4 g5 g6
    go_wp2
    go_ret
    exact ⟨rfl, HF2.out⟩
  have x1 : ins.length ≤ 20 := by have := (few_parts HFF.out).1; omega
  have HFW := Lib.hid (few_parts HFF.out).2
  clear HFF
  by_cases hfn : ¬ fr.length = L.length
  · have d1 : ((fr.length : Int) != (L.length : Int)) = true := by simp; omega
    clear hfn
    go_wp2
    go_ret
    exact ⟨rfl, HF2.out⟩
  have hfl : fr.length = L.length := Classical.not_not.1 hfn
  clear hfn
  have d1 : ((fr.length : Int) != (L.length : Int)) = false := by simp [hfl]
  by_cases hon : ¬ ot.length = L.length
  · have d2 : ((ot.length : Int) != (L.length : Int)) = true := by simp; omega
    clear hfl hon
    go_wp2
    go_ret
    exact ⟨rfl, HF2.out⟩
  have hol : ot.length = L.length := Classical.not_not.1 hon
  clear hon
  have d2 : ((ot.length : Int) != (L.length : Int)) = false := by simp [hol]
  have HFL := Lib.hid (And.intro hfl hol)
  have HCR : Hid (∀ (A : Option Addr) (c : Nat) (l : List Bool) (B : Option Addr) (c2 : Nat) (rs : List (List Bool)), l.length = L.length → rs.length ≤ 20 → badR I rs = false → ∀ wx, Below wz.heap.size wz wx → RB wx wx.heap.size A l → RR wx wx.heap.size B rs → Calls Try.prog 19 #[.agg #[.int .i64 I, .slice AL L.length cL, .slice AG G.length cG, .slice AO O.length cO, .slice AB D.length cB, .slice AC C.length cC, .slice AN N.length cN], .slice A l.length c, .slice B rs.length c2] wx (RetRR wx (runL L G (startL L l) rs) 0)) := Lib.hid fun A c l B c2 rs h1 h2 h3 wx hx r1 r2 => Run_yes I AL AG AO AB AC AN cL cG cO cB cC cN L G O D C N A B c c2 l rs wx (HA.out.nx (bnx HU2.out hx)) r1 r2 HM.out (by omega) h1 h3
  have CB := Run_bad I AL AG AO AB AC AN cL cG cO cB cC cN L G O D C N AF AR cf cr fr ins wz (HA.out.nx HU2.out).l (HF.out.nx HU2.out) (HR.out.nx HU2.out) HM.out.nl lr hfl
  have CG := HCR.out AF cf fr AR cr ins hfl x1
  have CG := fun h => CG h wz (Below.refl _ _) (HF.out.nx HU2.out) (HR.out.nx HU2.out)
  have HBK := Lib.hid (show w.heap.size + 1 < wz.heap.size by have := HS0.out; have := HU2.out.size; omega)
  have HK2 := Lib.hid (HK.out.nx HU2.out (by have := HS0.out; omega))
  have HR2 := Lib.hid (HR.out.nx HU2.out)
  have HF2b := Lib.hid (HF.out.nx HU2.out)
  have HX2 := Lib.hid (HX.out.nx HU2.out)
  have HA2 := Lib.hid (HA.out.nx HU2.out)
  clear hfl hol HA HK HR HF HX HU1 HU2 HB HS0
  cases hbb : badR I ins
  rotate_left
  · have C1 := CB hbb
    have HBB := Lib.hid hbb
    clear hbb CG CB
    go_wp2_with fail
    refine C1.mono ?_; rintro e u4 ⟨A4, c4, rfl, _, _, _, _, hu4⟩
    have HU4 := Lib.hid hu4
    clear C1 hu4 g0 g1 g2 g3 g4 g5 g6
    go_wp2
    go_loopg [11] ins.length (fun g s wr => ∃ j : Nat, j + g = ins.length ∧ s = .int .i64 j ∧ Below u4.heap.size u4 wr ∧ ∀ i, i < j → ((ins.getD i []).length : Int) = I)
    case atStart => exact ⟨0, by omega, rfl, Below.refl _ _, fun i hi => absurd hi (by omega)⟩
    case round =>
      obtain ⟨j, hj, rfl, hbel, hgood⟩ := hrel
      cases gk with
      | zero =>
        exfalso
        have := badR_end (I := I) (ins := ins) fun i hi => hgood i (by omega)
        rw [HBB.out] at this
        cases this
      | succ g =>
        have hjl : j < ins.length := by omega
        have hjl' : (j : Int) < ins.length := by omega
        have hB0 := bnx HU4.out hbel
        obtain ⟨ad, A', c', rfl, hab, hcr, _⟩ := (HR2.out.nx hB0) j hjl
        obtain ⟨q0, _, _, _, _, _, _⟩ := HK2.out.nx hB0 HBK.out
        have hlen := HFW.out (ins.getD j []) (by
          rw [List.getD_eq_getElem?_getD, List.getElem?_eq_getElem hjl]
          exact List.getElem_mem _)
        have HGD := Lib.hid hgood
        have HB0 := Lib.hid hB0
        have HBL := Lib.hid hbel
        by_cases hrI : ((ins.getD j []).length : Int) = I
        · have d3 : (((ins.getD j []).length : Int) != I) = false := by simp only [hrI]; simp
          have HRI := Lib.hid hrI
          clear hrI hgood hB0 hbel
          generalize hlr : (ins.getD j []).length = lr at *
          have HLR := Lib.hid hlr
          clear hlr
          go_wp2
          go_quiet (fail)
          go_wp2
          go_roundg g
          case measure => omega
          case rel =>
            refine ⟨j + 1, by omega, by go_num, bnx HBL.out (drw _), fun i hi => ?_⟩
            by_cases hij : i < j
            · exact HGD.out i hij
            · rw [show i = j by omega, HLR.out]; exact HRI.out
        · have d3 : (((ins.getD j []).length : Int) != I) = true := by simpa using hrI
          have HFE := Lib.hid (fun n => HF2.out.trans ((bnx HB0.out (drw n)).mono HF2.out.size))
          clear hrI hgood hB0 hbel
          generalize hlr : (ins.getD j []).length = lr at *
          clear hlr
          go_wp2
          go_quiet (fail)
          go_wp2
          go_ret
          exact ⟨rfl, HFE.out _⟩
  · have C1 := CG hbb
    have hTl := runL_len L G (startL L fr) ins
    have HGA := Lib.hid (badR_at hbb)
    have HTA := Lib.hid (runL_at L G (startL L fr) ins)
    have HTK := Lib.hid (fun k (hk : k ≤ ins.length) => runL_take L G (startL L fr) ins k hk)
    have HBT := Lib.hid (badR_take hbb)
    have HBB := Lib.hid hbb
    have HSL := Lib.hid (show ∀ i, (stAt L G (startL L fr) ins i).length = L.length from fun i => stAt_len L G (startL L fr) ins (by rw [startL_len L fr HFL.out.1]; exact HFL.out.1) i)
    obtain ⟨T, hT⟩ : ∃ T, runL L G (startL L fr) ins = T := ⟨_, rfl⟩
    rw [hT] at C1 hTl HTA HTK
    have HTL := Lib.hid hTl
    have HT := Lib.hid hT
    clear hbb CG CB hT hTl
    go_wp2_with fail
    refine C1.mono ?_; rintro e u4 ⟨A4, c4, rfl, r4, z4, n4, m4, hu4⟩
    have HU4 := Lib.hid hu4
    have R4 := Lib.hid r4
    have N4 := Lib.hid (And.intro n4 m4)
    clear C1 hu4 r4 z4 n4 m4 g0 g1 g2 g3 g4 g5 g6
    go_wp2
    go_loopg [11] ins.length (fun g s wr => ∃ j : Nat, j + g = ins.length ∧ s = .int .i64 j ∧ Below u4.heap.size u4 wr)
    case atStart => exact ⟨0, by omega, rfl, Below.refl _ _⟩
    case round =>
      obtain ⟨j, hj, rfl, hbel⟩ := hrel
      cases gk with
      | succ g =>
        have hjl : j < ins.length := by omega
        have hjl' : (j : Int) < ins.length := by omega
        have hB0 := bnx HU4.out hbel
        obtain ⟨ad, A', c', rfl, hab, hcr, _⟩ := (HR2.out.nx hB0) j hjl
        obtain ⟨q0, _, _, _, _, _, _⟩ := HK2.out.nx hB0 HBK.out
        have hrI := HGA.out j hjl
        have d3 : (((ins.getD j []).length : Int) != I) = false := by simp only [hrI]; simp
        have HBL := Lib.hid hbel
        have hlen := HFW.out (ins.getD j []) (by
          rw [List.getD_eq_getElem?_getD, List.getElem?_eq_getElem hjl]
          exact List.getElem_mem _)
        clear hrI hB0 hbel
        generalize (ins.getD j []).length = lr at *
        go_wp2
        go_quiet (fail)
        go_wp2
        go_roundg g
        case measure => omega
        case rel => exact ⟨j + 1, by omega, by go_num, bnx HBL.out (drw _)⟩
      | zero =>
        have q1 : ¬ ((j : Int) < ins.length) := by omega
        have q2 : ¬ (j < ins.length) := by omega
        have d3 : ((T.length : Int) != (ins.length : Int) + 1) = false := by rw [HTL.out]; simp
        have HB5 := Lib.hid hbel
        clear hbel hj
        go_wp2
        go_loopg [12] ins.length (fun g s wr => ∃ j : Nat, j + g = ins.length ∧ s = .int .i64 j ∧ Below u4.heap.size u4 wr)
        case atStart => exact ⟨0, by omega, rfl, HB5.out⟩
        case round =>
          obtain ⟨j2, hj2, rfl, hbel2⟩ := hrel
          cases gk with
          | succ g2 =>
            have hjl : j2 < ins.length := by omega
            have hjl' : (j2 : Int) < ins.length := by omega
            have hjt : j2 < T.length := by have := HTL.out; omega
            have hjt' : (j2 : Int) < T.length := by omega
            have hjs : j2 + 1 < T.length := by have := HTL.out; omega
            have hjs' : (j2 : Int) + 1 < T.length := by omega
            have hB0 := bnx HU4.out hbel2
            obtain ⟨ad1, A1, c1, rfl, hab1, hcr1, hrr1, _⟩ := (HR2.out.nx hB0) j2 hjl
            obtain ⟨ad2, A2, c2, rfl, hab2, hcr2, hrr2, _⟩ := (R4.out.nx hbel2) j2 hjt
            obtain ⟨ad2', A3, c3, e3, hab3, hcr3, hrr3, _⟩ := (R4.out.nx hbel2) (j2 + 1) hjs
            cases e3
            have e0 := HTA.out j2 (by omega)
            have e1 := HTA.out (j2 + 1) (by omega)
            have hrI := HGA.out j2 hjl
            have hsl := HSL.out j2
            have hsl1 := HSL.out (j2 + 1)
            rw [e0] at hcr2 hrr2
            rw [e1] at hcr3 hrr3
            have e2 : stAt L G (startL L fr) ins (j2 + 1) = nextL L G (stAt L G (startL L fr) ins j2) (ins.getD j2 []) := rfl
            rw [e2] at hcr3 hrr3 hsl1
            generalize stAt L G (startL L fr) ins j2 = S0 at *
            generalize ins.getD j2 [] = S1 at *
            have CF : Hid (∀ wx, Below wr.heap.size wr wx → Calls Try.prog 15 #[.agg #[.int .i64 I, .slice AL L.length cL, .slice AG G.length cG, .slice AO O.length cO, .slice AB D.length cB, .slice AC C.length cC, .slice AN N.length cN], .slice A2 S0.length c2, .slice A1 S1.length c1] wx (RetT wx (nextL L G S0 S1) (tellL O G S0 S1) (tellL D G S0 S1) (tellL C G S0 S1) 0)) := Lib.hid fun wx hx => Step_yes I AL AG AO AB AC AN cL cG cO cB cC cN L G O D C N A2 A1 c2 c1 S0 S1 wx (HA2.out.nx (bnx hB0 hx)) (hrr2.nx hx) (hrr1.nx hx) HM.out hsl hrI
            have HKK : Hid (∀ wx, Below wr.heap.size wr wx → wx.cell? ⟨w.heap.size + 1, 0, none⟩ = some (.int .i64 I) ∧ wx.cell? ⟨w.heap.size + 1, 1, none⟩ = some (.slice AL L.length cL) ∧ wx.cell? ⟨w.heap.size + 1, 2, none⟩ = some (.slice AG G.length cG) ∧ wx.cell? ⟨w.heap.size + 1, 3, none⟩ = some (.slice AO O.length cO) ∧ wx.cell? ⟨w.heap.size + 1, 4, none⟩ = some (.slice AB D.length cB) ∧ wx.cell? ⟨w.heap.size + 1, 5, none⟩ = some (.slice AC C.length cC) ∧ wx.cell? ⟨w.heap.size + 1, 6, none⟩ = some (.slice AN N.length cN) ∧ wx.cell? (ad2.add j2) = some (.slice A2 S0.length c2) ∧ wx.cell? (ad1.add j2) = some (.slice A1 S1.length c1)) := Lib.hid fun wx hx => by
              have q := HK2.out.nx (bnx hB0 hx) HBK.out
              exact ⟨q.k0, q.k1, q.k2, q.k3, q.k4, q.k5, q.k6, (hx.cell (by rw [block_add]; exact hab2)).trans hcr2, (hx.cell (by rw [block_add]; exact hab1)).trans hcr1⟩
            have HB2 := Lib.hid hbel2
            have HC3 := Lib.hid (And.intro hcr3 (And.intro hab3 hrr3))
            have HLE := Lib.hid hsl1
            clear e0 e1 e2 hrI hsl hcr1 hcr2 hcr3 hrr1 hrr2 hrr3 hab1 hab2 hab3 hB0 hbel2 hsl1
            generalize nextL L G S0 S1 = TN at *
            generalize tellL O G S0 S1 = TO at *
            generalize tellL D G S0 S1 = TD at *
            generalize tellL C G S0 S1 = TC at *
            go_upto_region 20 with fail
            go_cut [13, 15] (fun s13 s15 wx => NxG wr TN s13 s15 wx)
            case first =>
              have hU := (Below.refl wr.heap.size wr).drew
              have hV := hU.alloc hU.size (.cells #[.slice none 0 0, .slice none 0 0, .slice none 0 0] 40)
              have K0 := HKK.out _ hU
              have K0a := HKK.out _ hV
              have t0 : T3 (wr.drew.alloc (.cells #[.slice none 0 0, .slice none 0 0, .slice none 0 0] 40)) wr.heap.size (.slice none 0 0) (.slice none 0 0) (.slice none 0 0) := T3.new wr.drew _ _ _ 40
              have l0 : wr.heap.size < (wr.drew.alloc (.cells #[.slice none 0 0, .slice none 0 0, .slice none 0 0] 40)).heap.size := by simp
              go_region_held3 (fun w' => w'.cell? ⟨w.heap.size + 1, 0, none⟩ = some (.int .i64 I) ∧ w'.cell? ⟨w.heap.size + 1, 1, none⟩ = some (.slice AL L.length cL) ∧ w'.cell? ⟨w.heap.size + 1, 2, none⟩ = some (.slice AG G.length cG) ∧ w'.cell? ⟨w.heap.size + 1, 3, none⟩ = some (.slice AO O.length cO) ∧ w'.cell? ⟨w.heap.size + 1, 4, none⟩ = some (.slice AB D.length cB) ∧ w'.cell? ⟨w.heap.size + 1, 5, none⟩ = some (.slice AC C.length cC) ∧ w'.cell? ⟨w.heap.size + 1, 6, none⟩ = some (.slice AN N.length cN) ∧ w'.cell? (ad2.add j2) = some (.slice A2 S0.length c2) ∧ w'.cell? (ad1.add j2) = some (.slice A1 S1.length c1))
                (first | exact K0 | exact K0a | exact K1 | exact K1a | exact K1c | exact K2 | go_keep)
                (first
                  | (go_at_call 15; ((with_reducible refine (CF.out _ hU).mono ?_); rintro e u1 ⟨vn, vo, vd, vc, rfl, hsn, ⟨Ao, co, rfl, _⟩, ⟨Ad, cd, rfl, _⟩, ⟨Ac, cc, rfl, _⟩, hu1⟩; have U1 := bnx hU hu1; have K1 := HKK.out _ U1; have K1a := HKK.out _ (U1.alloc U1.size (.cells #[.slice none 0 0, .slice none 0 0, .slice none 0 0] 40)); obtain ⟨e0, e1, e2, e3, e4, e5⟩ := T3.new u1 (.slice none 0 0) (.slice none 0 0) (.slice none 0 0) 40; have K1c := HKK.out _ (U1.alloc U1.size (.cells #[.slice Ao TO.length co, .slice Ad TD.length cd, .slice Ac TC.length cc] 40))))
                  | (go_at_call 15; ((refine (CF.out _ hV).mono ?_); rintro e u1 ⟨vn, vo, vd, vc, rfl, hsn, ⟨Ao, co, rfl, _⟩, ⟨Ad, cd, rfl, _⟩, ⟨Ac, cc, rfl, _⟩, hu1⟩; have U1 := bnx hV hu1; have K1 := HKK.out _ U1; have T1 := t0.nx hu1 l0; have K2 := HKK.out _ (below_put3 U1 (Nat.le_refl wr.heap.size) (.slice Ao TO.length co) (.slice Ad TD.length cd) (.slice Ac TC.length cc)); unfold put3 at K2; obtain ⟨e0, e1, e2, e3, e4, e5⟩ := t0.nx hu1 l0)))
              all_goals (go_wp2_with fail; go_meet; first | exact NxG.last hsn U1 _ | exact NxG.put hsn U1 T1 (Nat.le_refl _) | exact NxG.lastput hsn U1)
            case rest =>
              obtain ⟨An, cn, rfl, rfl, rn, bl⟩ := hcut
              have hc3 := (bl.cell (p := ad2.add (j2 + 1)) (by rw [block_add]; exact HC3.out.2.1)).trans HC3.out.1
              rw [addk _ _ (by omega)] at hc3
              have FE := flagsEq An A3 cn c3 TN wc rn (HC3.out.2.2.nx bl) (by have := HLE.out; unfold maxLen; omega)
              have HBL := Lib.hid (bnx HB2.out bl)
              clear rn bl HC3 HB2 HKK CF
              go_wp2_with fail
              refine FE.mono ?_; rintro e w6 ⟨rfl, h6⟩
              have HB6 := Lib.hid (bnx HBL.out h6)
              clear FE h6 hc3
              go_wp2
              go_roundg g2
              case measure => omega
              case rel => exact ⟨j2 + 1, by omega, by go_num, HB6.out⟩
          | zero =>
            have q3 : ¬ ((j2 : Int) < ins.length) := by omega
            have q4 : ¬ (j2 < ins.length) := by omega
            have HB7 := Lib.hid hbel2
            clear hbel2 hj2
            go_upto_region 24 with fail
            obtain ⟨RS, hRS⟩ : ∃ RS, ins.take (a8 % ((ins.length : Int) + 1)).toNat = RS := ⟨_, rfl⟩
            have hk0 := Int.emod_nonneg a8 (show ((ins.length : Int) + 1) ≠ 0 by omega)
            have hk1 := Int.emod_lt_of_pos a8 (show 0 < (ins.length : Int) + 1 by omega)
            have hRl : RS.length = (a8 % ((ins.length : Int) + 1)).toNat := by rw [← hRS, List.length_take]; omega
            obtain ⟨TP, hTP⟩ : ∃ TP, runL L G (startL L fr) RS = TP := ⟨_, rfl⟩
            have hTR := HTK.out (a8 % ((ins.length : Int) + 1)).toNat (by omega)
            rw [hRS, hTP] at hTR
            have hTPl := runL_len L G (startL L fr) RS
            rw [hTP] at hTPl
            have hKI : a8 % ((ins.length : Int) + 1) = (RS.length : Int) := by omega
            have hbR : badR I RS = false := by rw [← hRS]; exact HBT.out _
            have hRR : ∀ wx, RR wx wx.heap.size AR ins → RR wx wx.heap.size AR RS := fun wx h => by rw [← hRS]; exact h.take _
            have hRle : RS.length ≤ ins.length := by omega
            have hTT : ∀ wx, RR wx wx.heap.size A4 T → RR wx wx.heap.size A4 TP := fun wx h => by rw [← hTR]; exact h.take _
            rw [hKI]
            have HRL := Lib.hid (And.intro hTPl hRle)
            have HTT := Lib.hid hTT
            have HRR := Lib.hid hRR
            have CP : Hid (∀ wx, Below wz.heap.size wz wx → Calls Try.prog 19 #[.agg #[.int .i64 I, .slice AL L.length cL, .slice AG G.length cG, .slice AO O.length cO, .slice AB D.length cB, .slice AC C.length cC, .slice AN N.length cN], .slice AF fr.length cf, .slice AR RS.length cr] wx (RetRR wx TP 0)) := Lib.hid fun wx hx => by
              have := HCR.out AF cf fr AR cr RS HFL.out.1 (by omega) hbR wx hx (HF2b.out.nx hx) (hRR wx (HR2.out.nx hx))
              rwa [hTP] at this
            have hx1 : RS.length ≤ 20 := by omega
            have hx2 : TP.length ≤ 21 := by omega
            have hx3 : T.length ≤ 21 := by have := HTL.out; omega
            have sl1 : ∀ wx, (Instr.slice 29 (.slice AR ins.length cr) none (some (.int .i64 (RS.length : Int))) none).run Try.prog wx = .ok (.slice AR RS.length cr) wx := fun wx => by
              have := slice29_h AR ins.length cr RS.length (RS.length : Int) rfl (by have := HNR.out.1; omega) wx
              rwa [cutA_zero] at this
            have sl2 : ∀ wx, (Instr.slice 29 (.slice A4 T.length c4) none (some (.int .i64 ((RS.length : Int) + 1))) none).run Try.prog wx = .ok (.slice A4 TP.length c4) wx := fun wx => by
              have := slice29_h A4 T.length c4 TP.length ((RS.length : Int) + 1) (by omega) (by have := N4.out.1; have := HTL.out; omega) wx
              rwa [cutA_zero] at this
            clear hk0 hk1 hRl hTR hTPl hKI hbR hRR hTT hRS hTP hRle
            have HSL2 := Lib.hid sl2
            clear sl2
            have HW := Lib.hid (bnx HU4.out HB7.out)
            have HKK : Hid (∀ wx, Below wr.heap.size wr wx → wx.cell? ⟨w.heap.size + 1, 0, none⟩ = some (.int .i64 I) ∧ wx.cell? ⟨w.heap.size + 1, 1, none⟩ = some (.slice AL L.length cL) ∧ wx.cell? ⟨w.heap.size + 1, 2, none⟩ = some (.slice AG G.length cG) ∧ wx.cell? ⟨w.heap.size + 1, 3, none⟩ = some (.slice AO O.length cO) ∧ wx.cell? ⟨w.heap.size + 1, 4, none⟩ = some (.slice AB D.length cB) ∧ wx.cell? ⟨w.heap.size + 1, 5, none⟩ = some (.slice AC C.length cC) ∧ wx.cell? ⟨w.heap.size + 1, 6, none⟩ = some (.slice AN N.length cN)) := Lib.hid fun wx hx => by
              have q := HK2.out.nx (bnx HW.out hx) HBK.out
              exact ⟨q.k0, q.k1, q.k2, q.k3, q.k4, q.k5, q.k6⟩
            have CPW : Hid (∀ wx, Below wr.heap.size wr wx → Calls Try.prog 19 #[.agg #[.int .i64 I, .slice AL L.length cL, .slice AG G.length cG, .slice AO O.length cO, .slice AB D.length cB, .slice AC C.length cC, .slice AN N.length cN], .slice AF fr.length cf, .slice AR RS.length cr] wx (RetRR wx TP 0)) := Lib.hid fun wx hx => CP.out wx (bnx HW.out hx)
            have hU := (Below.refl wr.heap.size wr).drew
            have K0 := HKK.out _ hU
            go_region_held3 (fun w' => w'.cell? ⟨w.heap.size + 1, 0, none⟩ = some (.int .i64 I) ∧ w'.cell? ⟨w.heap.size + 1, 1, none⟩ = some (.slice AL L.length cL) ∧ w'.cell? ⟨w.heap.size + 1, 2, none⟩ = some (.slice AG G.length cG) ∧ w'.cell? ⟨w.heap.size + 1, 3, none⟩ = some (.slice AO O.length cO) ∧ w'.cell? ⟨w.heap.size + 1, 4, none⟩ = some (.slice AB D.length cB) ∧ w'.cell? ⟨w.heap.size + 1, 5, none⟩ = some (.slice AC C.length cC) ∧ w'.cell? ⟨w.heap.size + 1, 6, none⟩ = some (.slice AN N.length cN))
              (first | exact K0 | exact K1 | go_keep)
              (first
                | (go_at_call 19; ((with_reducible refine (CPW.out _ hU).mono ?_); rintro e u5 ⟨A5, c5, rfl, r5, z5, n5, m5, hu5⟩; have U5 := bnx hU hu5; have K1 := HKK.out _ U5)))
            have HU5 := Lib.hid U5
            have R5 := Lib.hid r5
            have hO : OwnB (u5.alloc (.cells #[] 4)) u5.heap.size (.slice (some ⟨u5.heap.size, 0, none⟩) 0 0) [] := World.ownsRow_made u5 #[] 0 (Nat.le_refl _) (Nat.zero_le _) rfl
            have hBO := bal (Below.refl u5.heap.size u5) (.cells #[] 4)
            have rF5 := (HF2b.out.nx (bnx (bnx HW.out U5) hBO))
            have hz5 := HZF.out
            have hf5 : fr.length ≤ 40 := by have := HFL.out.1; omega
            clear K0 K1 hU r5 z5 n5 m5 hu5 U5 sl1 CP CPW HKK
            go_wp2_with (first | (at_builtin; refine wpBs (z := u5) rfl (.tmp 147) (.tmp 148) rfl u5.heap.size _ [] rfl hO AF cf fr rfl rF5 hBO.size (Nat.le_refl _) hBO (by simp; omega) hz5.2.2 ?_) | fail)
            intro v6 w6 ho6 hb6
            obtain ⟨A6, c6, rfl, _, _, _, _⟩ := ho6.val
            have HO6 := Lib.hid ho6
            have HB6 := Lib.hid (hBO.trans hb6)
            have HW5 := Lib.hid (bnx HW.out HU5.out)
            clear hO hBO rF5 hz5 ho6 hb6
            obtain ⟨MX, hMX⟩ : ∃ MX, mixL L fr ot = MX := ⟨_, rfl⟩
            have hml := mixL_len L fr ot HFL.out.1 HFL.out.2
            have hms := startL_mix L fr ot HFL.out.1 HFL.out.2 (fun i hi => by
              have := (HRT.out.2.2.2.2.1 i hi).2.2
              unfold RsB at this
              have := HI.out
              omega)
            have hma := mixL_at L fr ot HFL.out.1 HFL.out.2
            rw [hMX] at hml hms hma
            have HML := Lib.hid hml
            have HMS := Lib.hid hms
            have HMA := Lib.hid hma
            have ho7 : OwnB w6 u5.heap.size (.slice A6 fr.length c6) (rowS MX fr 0) := by
              rw [show rowS MX fr 0 = fr by simp [rowS]]
              exact HO6.out
            have HO7 := Lib.hid ho7
            have HRI := Lib.hid HFL.out.1
            clear hml hms hma ho7 hMX
            go_wp2
            go_loopg [20] L.length (fun g s wq => ∃ j : Nat, j + g = L.length ∧ s = .int .i64 j ∧ OwnB wq u5.heap.size (.slice A6 fr.length c6) (rowS MX fr j) ∧ Below u5.heap.size u5 wq)
            case atStart => exact ⟨0, by omega, rfl, HO7.out, HB6.out⟩
            case round =>
              obtain ⟨j3, hj3, rfl, hrow, hbel⟩ := hrel
              have hB0 := bnx HW5.out hbel
              have hfl := HRI.out
              cases gk with
              | succ g3 =>
                have hjl : j3 < L.length := by omega
                have hjl' : (j3 : Int) < L.length := by omega
                have hjs' : (j3 : Int) < fr.length := by omega
                have hjo' : (j3 : Int) < ot.length := by have := HFL.out.2; omega
                obtain ⟨adl, rfl, _, hp0, hp1⟩ := (HA2.out.nx hB0).l j3 hjl
                obtain ⟨adx, rfl, _, hox⟩ := (HX2.out.nx hB0) j3 (by have := HFL.out.2; omega)
                have k1 := (HK2.out.nx hB0 HBK.out).k1
                have hlen := rowS_len MX fr HML.out j3 (by omega)
                have hnext := rowS_next MX fr HML.out j3 (by omega)
                have hstay := rowS_stay MX fr HML.out j3 (by omega)
                have hgj := HMA.out j3 (by omega)
                generalize L.getD j3 (0, 0) = p at *
                obtain ⟨x, y⟩ := p
                simp only at hp0 hp1 hgj
                have hf := hrow
                rw [← hlen] at hf
                obtain ⟨gb, rfl⟩ := hf.form (by omega)
                obtain ⟨s1, s2, s3, s4, s5⟩ := hrow.store hlen (j := j3) (by omega)
                generalize (rowS MX fr j3).getD j3 false = u at *
                generalize ot.getD j3 false = ob at *
                have HN := Lib.hid hnext
                have HST := Lib.hid hstay
                have HGJ := Lib.hid hgj
                have HROW := Lib.hid hrow
                have HBEL := Lib.hid hbel
                have HS5 := Lib.hid s5
                have HS1 := Lib.hid s1
                clear hnext hstay hgj hrow hbel hp0 hf hlen s5 s1 hB0 hfl
                by_cases y0 : y < 2
                · go_wp2
                  go_roundg g3
                  case measure => omega
                  case rel =>
                    refine ⟨j3 + 1, by omega, by go_num, ?_, HBEL.out.setCell HS1.out _⟩
                    rw [HN.out, HGJ.out, if_pos y0]
                    exact HS5.out ob
                · go_wp2
                  go_roundg g3
                  case measure => omega
                  case rel =>
                    refine ⟨j3 + 1, by omega, by go_num, ?_, HBEL.out⟩
                    rw [HST.out (by rw [HGJ.out, if_neg (by omega)])]
                    exact HROW.out
              | zero =>
                have q5 : ¬ ((j3 : Int) < L.length) := by omega
                have q6 : ¬ (j3 < L.length) := by omega
                rw [show j3 = fr.length by omega, rowS_full MX fr HML.out] at hrow
                obtain ⟨A7, c7, e7, r7, _⟩ := hrow.val
                simp only [Value.slice.injEq] at e7
                obtain ⟨rfl, e8, rfl⟩ := e7
                clear e8
                obtain ⟨k0, k1, k2, k3, k4, k5, k6⟩ := HK2.out.nx hB0 HBK.out
                have CQ := HCR.out A6 c6 MX AR cr ins (by rw [HML.out]; exact hfl) x1 HBB.out wr hB0 r7 (HR2.out.nx hB0)
                rw [HML.out, HMS.out, HT.out] at CQ
                have HBQ := Lib.hid hbel
                have HB0 := Lib.hid hB0
                clear hrow r7 hB0 hfl hbel hj3
                go_wp2_with fail
                refine CQ.mono ?_; rintro e w8 ⟨A8, c8, rfl, r8, _, _, _, h8⟩
                have HB8 := Lib.hid (bnx HB0.out h8)
                have R8 := Lib.hid r8
                have hb5 := bnx HBQ.out h8
                have hu4 := bnx HB7.out (bnx HU5.out hb5)
                have R5b := R5.out.nx hb5
                have F1 := rowsEq A5 A4 c5 c4 TP w8 R5b (HTT.out w8 (R4.out.nx hu4)) (by unfold maxLen; omega)
                have HU48 := Lib.hid hu4
                have sl2 := HSL2.out
                clear CQ r8 h8 hb5 hu4 R5b k0 k1 k2 k3 k4 k5 k6
                go_wp2_with fail
                refine F1.mono ?_; rintro e w9 ⟨rfl, h9⟩
                have F2 := rowsEq A8 A4 c8 c4 T w9 (R8.out.nx h9) (R4.out.nx (bnx HU48.out h9)) (by unfold maxLen; omega)
                have HB9 := Lib.hid (bnx HB8.out h9)
                clear F1 h9
                go_wp2_with fail
                refine F2.mono ?_; rintro e w10 ⟨rfl, h10⟩
                have HFE := Lib.hid (HF2.out.trans ((bnx HB9.out h10).mono HF2.out.size))
                clear F2 h10
                go_wp2
                go_ret
                exact ⟨rfl, HFE.out⟩
end Go.Proofs.Ytkdocjcpehmljaa
/- How the argument of SimRuns is opened. -/
namespace Go.Proofs.Ytkdocjcpehmljaa
open Go.RowKit
open Go.Shelf Go.ChangeShapes Go.WideShapes Go.ChangeAt Go.RowKit Go.Lib Go.Joins
theorem cells61 : Try.prog.cellsOf 61 = 11 := by kernel_rfl
set_option maxRecDepth 100000 in
theorem opened61 {H : Type} {enc : TypeId × Value → H} {W : World} {fuel : Nat} {cs : Array Value} {y : DataW H × List MemPlace} (hsz : cs.size = Try.prog.cellsOf 61) (h : DataW.trod enc Try.prog W 0 (fun _ => true) true fuel 61 (Value.agg cs).cells.toList = some y) :
    ∃ (I : Int) (AL AG AO AB AC AN : Option Addr) (cL cG cO cB cC cN : Nat) (L G : List Pr) (O D C : List Int) (N : List Nm), ∃ (AF AR AX : Option Addr) (kf kr kx : Nat) (fr ot : List Bool) (ins : List (List Bool)) (a : Int), cs = #[.int .i64 I, .slice AL L.length cL, .slice AG G.length cG, .slice AO O.length cO, .slice AB D.length cB, .slice AC C.length cC, .slice AN N.length cN, .slice AF fr.length kf, .slice AR ins.length kr, .int .u8 a, .slice AX ot.length kx] ∧ RA W W.heap.size AL AG AO AB AC AN L G O D C N ∧ (O.length ≤ maxLen ∧ D.length ≤ maxLen ∧ C.length ≤ maxLen ∧ N.length ≤ maxLen) ∧
      (RB W W.heap.size AF fr ∧ fr.length ≤ kf ∧ kf ≤ maxLen ∧ (AF = none → kf = 0)) ∧ (RR W W.heap.size AR ins ∧ ins.length ≤ kr ∧ kr ≤ maxLen ∧ (AR = none → kr = 0)) ∧ (RB W W.heap.size AX ot ∧ ot.length ≤ kx ∧ kx ≤ maxLen ∧ (AX = none → kx = 0)) ∧ 0 ≤ a ∧ a ≤ 255 := by
  obtain ⟨l⟩ := cs
  match l, hsz.trans cells61 with
  | [v0, v1, v2, v3, v4, v5, v6, v7, v8, v9, v10], _ =>
    obtain ⟨xs, k, hk, hxy, _, hxl, hf⟩ := DataW.trod_struct Try.underlying61 h
    match xs, hxl with
    | [y0, y1, y2, y3, y4], _ =>
      have g0 := hf 0 _ rfl
      have g1 := hf 1 _ rfl
      have g2 := hf 2 _ rfl
      have g3 := hf 3 _ rfl
      have g4 := hf 4 _ rfl
      simp [cells5, cells27, cells28, cells29, Value.cells] at g0 g1 g2 g3 g4
      obtain ⟨I, AL, AG, AO, AB, AC, AN, cL, cG, cO, cB, cC, cN, L, G, O, D, C, N, e, hRA, ⟨nL, nG, nO, nD, nC, nN⟩, ⟨mL, mG, mO, mD, mC, mN⟩, zG, zO, zB, zC⟩ := opened_aig g0
      obtain ⟨AF, cF, S, rfl, r1, n1, m1, z1⟩ := opened28 g1
      obtain ⟨AI, cI, S2, rfl, r2, n2, m2, z2⟩ := opened29 g2
      obtain ⟨i, e3, _, w3⟩ := DataW.trod_int Try.underlying5 g3
      obtain ⟨AX, cX, S3, rfl, r3, n3, m3, z3⟩ := opened28 g4
      have hb := bounds_u8 w3
      simp at e e3
      obtain ⟨rfl, rfl, rfl, rfl, rfl, rfl, rfl⟩ := e
      subst e3
      exact ⟨I, AL, AG, AO, AB, AC, AN, cL, cG, cO, cB, cC, cN, L, G, O, D, C, N, AF, AI, AX, cF, cI, cX, S, S3, S2, i, rfl, hRA, ⟨by omega, by omega, by omega, by omega⟩, ⟨r1, n1, m1, z1⟩, ⟨r2, n2, m2, z2⟩, ⟨r3, n3, m3, z3⟩, hb⟩
end Go.Proofs.Ytkdocjcpehmljaa
