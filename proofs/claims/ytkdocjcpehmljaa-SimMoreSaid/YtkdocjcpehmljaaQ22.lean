/-
  A statement's walk: SimMore.
  How long a slice of gates may be that came in with what SimMore is asked of.
-/
import Derived.Test.YtkdocjcpehmljaaProg
import Derived.WalkKit
import Derived.WalkSpells
import Derived.WalkLawsBesides
import Derived.Lib.Hide
import Derived.BigQuiet
import Derived.Deep.QuietTactic
import Derived.Deep.RegionWith
import Derived.Deep.RegionHeld3
import Derived.Test.YtkdocjcpehmljaaQ21
import Derived.IntWalk
import Derived.Laws.Rows
import Derived.Test.YtkdocjcpehmljaaQ15
import Derived.SizedLaws
set_option linter.unusedVariables false
/- A statement's walk: SimMore. -/
namespace Go.Proofs.Ytkdocjcpehmljaa
open Go.RowKit
set_option maxRecDepth 100000 in
set_option maxHeartbeats 8000000 in
theorem more_any (I : Int) (AL AG AO AB AC AN : Option Addr) (cL cG cO cB cC cN : Nat) (L G : List Pr) (O D C : List Int) (N : List Nm) (AS AI : Option Addr) (cs ci : Nat) (st inp : List Bool) (x z : Int) (w : World) (hA : RA w w.heap.size AL AG AO AB AC AN L G O D C N) (lO : O.length ≤ maxLen) (lD : D.length ≤ maxLen) (lC : C.length ≤ maxLen) (lN : N.length ≤ maxLen) (lG : G.length * 16 ≤ 140737488351232) (zG : AG = none → cG = 0)
    (hS : RB w w.heap.size AS st) (hI : RB w w.heap.size AI inp) (nS : st.length ≤ cs) (mS : cs ≤ maxLen) (nI : inp.length ≤ ci) (mI : ci ≤ maxLen) (bx0 : -9223372036854775808 ≤ x) (bx1 : x ≤ 9223372036854775807) (bz0 : -9223372036854775808 ≤ z) (bz1 : z ≤ 9223372036854775807) :
    Calls Try.prog 8 #[.agg #[.int .i64 I, .slice AL L.length cL, .slice AG G.length cG, .slice AO O.length cO, .slice AB D.length cB, .slice AC C.length cC, .slice AN N.length cN, .int .i64 x, .int .i64 z, .slice AS st.length cs, .slice AI inp.length ci]] w (RetV w (.bool true)) := by
  have hb := bal (bal (bal (Below.refl w.heap.size w) (.cells #[.int .i64 I, .slice AL L.length cL, .slice AG G.length cG, .slice AO O.length cO, .slice AB D.length cB, .slice AC C.length cC, .slice AN N.length cN, .int .i64 x, .int .i64 z, .slice AS st.length cs, .slice AI inp.length ci] 67)) (.cells #[.int .i64 I, .slice AL L.length cL, .slice AG G.length cG, .slice AO O.length cO, .slice AB D.length cB, .slice AC C.length cC, .slice AN N.length cN] 27)) (.cells #[.int .i64 x, .int .i64 z] 58)
  have hk : KA (((w.alloc (.cells #[.int .i64 I, .slice AL L.length cL, .slice AG G.length cG, .slice AO O.length cO, .slice AB D.length cB, .slice AC C.length cC, .slice AN N.length cN, .int .i64 x, .int .i64 z, .slice AS st.length cs, .slice AI inp.length ci] 67)).alloc (.cells #[.int .i64 I, .slice AL L.length cL, .slice AG G.length cG, .slice AO O.length cO, .slice AB D.length cB, .slice AC C.length cC, .slice AN N.length cN] 27)).alloc (.cells #[.int .i64 x, .int .i64 z] 58)) (w.heap.size + 1) I AL AG AO AB AC AN cL cG cO cB cC cN L G O D C N := by constructor <;> go_simp
  have hgx : (((w.alloc (.cells #[.int .i64 I, .slice AL L.length cL, .slice AG G.length cG, .slice AO O.length cO, .slice AB D.length cB, .slice AC C.length cC, .slice AN N.length cN, .int .i64 x, .int .i64 z, .slice AS st.length cs, .slice AI inp.length ci] 67)).alloc (.cells #[.int .i64 I, .slice AL L.length cL, .slice AG G.length cG, .slice AO O.length cO, .slice AB D.length cB, .slice AC C.length cC, .slice AN N.length cN] 27)).alloc (.cells #[.int .i64 x, .int .i64 z] 58)).cell? ⟨w.heap.size + 2, 0, none⟩ = some (.int .i64 x) ∧ (((w.alloc (.cells #[.int .i64 I, .slice AL L.length cL, .slice AG G.length cG, .slice AO O.length cO, .slice AB D.length cB, .slice AC C.length cC, .slice AN N.length cN, .int .i64 x, .int .i64 z, .slice AS st.length cs, .slice AI inp.length ci] 67)).alloc (.cells #[.int .i64 I, .slice AL L.length cL, .slice AG G.length cG, .slice AO O.length cO, .slice AB D.length cB, .slice AC C.length cC, .slice AN N.length cN] 27)).alloc (.cells #[.int .i64 x, .int .i64 z] 58)).cell? ⟨w.heap.size + 2, 1, none⟩ = some (.int .i64 z) := by constructor <;> go_simp
  have hs0 : (((w.alloc (.cells #[.int .i64 I, .slice AL L.length cL, .slice AG G.length cG, .slice AO O.length cO, .slice AB D.length cB, .slice AC C.length cC, .slice AN N.length cN, .int .i64 x, .int .i64 z, .slice AS st.length cs, .slice AI inp.length ci] 67)).alloc (.cells #[.int .i64 I, .slice AL L.length cL, .slice AG G.length cG, .slice AO O.length cO, .slice AB D.length cB, .slice AC C.length cC, .slice AN N.length cN] 27)).alloc (.cells #[.int .i64 x, .int .i64 z] 58)).heap.size = w.heap.size + 3 := by simp
  have HS0 := Lib.hid hs0
  have HGX := Lib.hid hgx
  have CSH := shown_any (((w.alloc (.cells #[.int .i64 I, .slice AL L.length cL, .slice AG G.length cG, .slice AO O.length cO, .slice AB D.length cB, .slice AC C.length cC, .slice AN N.length cN, .int .i64 x, .int .i64 z, .slice AS st.length cs, .slice AI inp.length ci] 67)).alloc (.cells #[.int .i64 I, .slice AL L.length cL, .slice AG G.length cG, .slice AO O.length cO, .slice AB D.length cB, .slice AC C.length cC, .slice AN N.length cN] 27)).alloc (.cells #[.int .i64 x, .int .i64 z] 58))
  have HA := Lib.hid (hA.nx hb)
  have HB := Lib.hid hb
  have HK := Lib.hid hk
  have HS := Lib.hid (hS.nx hb)
  have HI := Lib.hid (hI.nx hb)
  have HCM := Lib.hid (show ∀ AM cM GM wx, RA wx wx.heap.size AL AM AO AB AC AN L GM O D C N → _ from fun AM cM GM wx h => May2_any I AL AM AO AB AC AN cL cM cO cB cC cN L GM O D C N wx h lO lD lC lN)
  have HG := Lib.hid (show G.length ≤ 8796093022000 ∧ (AG = none → cG = 0) from ⟨by omega, zG⟩)
  have HXZ := Lib.hid (And.intro (And.intro bx0 bx1) (And.intro bz0 bz1))
  have ls : st.length ≤ 9223372036854775807 := by unfold maxLen at mS; omega
  have li : inp.length ≤ 9223372036854775807 := by unfold maxLen at mI; omega
  have HLI := Lib.hid (show st.length ≤ maxLen ∧ inp.length ≤ maxLen by omega)
  clear hA hb hk hgx hs0 hS hI lO lD lC lN lG zG nS mS nI mI bx0 bx1 bz0 bz1
  go_enter Try.func8, Try.ntmps8
  go_wp2_with fail
  refine CSH.mono ?_; rintro e u1 ⟨rfl, hu1⟩
  generalize (((w.alloc (.cells #[.int .i64 I, .slice AL L.length cL, .slice AG G.length cG, .slice AO O.length cO, .slice AB D.length cB, .slice AC C.length cC, .slice AN N.length cN, .int .i64 x, .int .i64 z, .slice AS st.length cs, .slice AI inp.length ci] 67)).alloc (.cells #[.int .i64 I, .slice AL L.length cL, .slice AG G.length cG, .slice AO O.length cO, .slice AB D.length cB, .slice AC C.length cC, .slice AN N.length cN] 27)).alloc (.cells #[.int .i64 x, .int .i64 z] 58)) = w0 at *
  obtain ⟨k0, k1, k2, k3, k4, k5, k6⟩ := HK.out.nx hu1 (by have := HS0.out; omega)
  have HU1 := Lib.hid hu1
  clear CSH hu1
  go_upto_region 7 with fail
  have hz := bal (Below.refl u1.heap.size u1) (.cells #[.int .i64 I, .slice AL L.length cL, .slice AG G.length cG, .slice AO O.length cO, .slice AB D.length cB, .slice AC C.length cC, .slice AN N.length cN] 27)
  have hkz := KA.new u1 I AL AG AO AB AC AN cL cG cO cB cC cN L G O D C N
  have hfz : (u1.alloc (.cells #[.int .i64 I, .slice AL L.length cL, .slice AG G.length cG, .slice AO O.length cO, .slice AB D.length cB, .slice AC C.length cC, .slice AN N.length cN] 27)).frozen? ⟨u1.heap.size, 2, none⟩ = false := by go_simp
  have hsz : (u1.alloc (.cells #[.int .i64 I, .slice AL L.length cL, .slice AG G.length cG, .slice AO O.length cO, .slice AB D.length cB, .slice AC C.length cC, .slice AN N.length cN] 27)).heap.size = u1.heap.size + 1 := by simp
  obtain ⟨b8, hb8⟩ : ∃ b, u1.heap.size = b := ⟨_, rfl⟩
  generalize (u1.alloc (.cells #[.int .i64 I, .slice AL L.length cL, .slice AG G.length cG, .slice AO O.length cO, .slice AB D.length cB, .slice AC C.length cC, .slice AN N.length cN] 27)) = z0 at *
  have HZ := Lib.hid hz
  have HB8 := Lib.hid hb8
  rw [hb8] at hkz hfz hsz ⊢
  have HKZ := Lib.hid hkz
  have HFZ := Lib.hid hfz
  have HSZ := Lib.hid hsz
  clear k0 k1 k2 k3 k4 k5 k6 hz hb8 hkz hfz hsz
  go_cut [7] (fun s7 wx => s7 = .bool true ∧ More u1 b8 I AL AG AO AB AC AN cL cG cO cB cC cN L G O D C N (x, z) wx)
  case first =>
    have HAZ := Lib.hid (HA.out.nx (bnx HU1.out HZ.out))
    have HKC : Hid (∀ wx, Below u1.heap.size u1 wx → wx.cell? ⟨w.heap.size + 1, 2, none⟩ = some (.slice AG G.length cG) ∧ wx.cell? ⟨w.heap.size + 2, 0, none⟩ = some (.int .i64 x) ∧ wx.cell? ⟨w.heap.size + 2, 1, none⟩ = some (.int .i64 z)) := Lib.hid fun wx hx => by
      have hx0 := bnx HU1.out hx
      have q := HK.out.nx hx0 (by have := HS0.out; omega)
      exact ⟨q.k2, (hx0.cell (p := ⟨w.heap.size + 2, 0, none⟩) (by have := HS0.out; show w.heap.size + 2 < _; omega)).trans HGX.out.1, (hx0.cell (p := ⟨w.heap.size + 2, 1, none⟩) (by have := HS0.out; show w.heap.size + 2 < _; omega)).trans HGX.out.2⟩
    have hB_d := (Below.refl z0.heap.size z0).drew
    have hB_0 := bal hB_d (.cells #[] 58)
    have hB_1 := bal hB_d (.cells #[.int .i64 x, .int .i64 z] 58)
    have hB_01 := bal hB_0 (.cells #[.int .i64 x, .int .i64 z] 58)
    have hB_10 := bal hB_1 (.cells #[] 58)
    have Kz := HKC.out _ HZ.out
    have Kd := HKC.out _ (bnx HZ.out hB_d)
    have K_0 := HKC.out _ (bnx HZ.out hB_0)
    have K_1 := HKC.out _ (bnx HZ.out hB_1)
    have K_01 := HKC.out _ (bnx HZ.out hB_01)
    have K_10 := HKC.out _ (bnx HZ.out hB_10)
    have hO_0 : OwnP (z0.drew.alloc (.cells #[] 58)) z0.heap.size (.slice (some ⟨z0.heap.size, 0, none⟩) 0 0) [] := World.ownsRow_lit (size := 2) (e := 58) (base := z0.heap.size) z0.drew #[] 0 (Nat.le_refl _) (by simp [maxLen]) (by simp)
    have hO_01 : OwnP ((z0.drew.alloc (.cells #[] 58)).alloc (.cells #[.int .i64 x, .int .i64 z] 58)) z0.heap.size (.slice (some ⟨z0.heap.size, 0, none⟩) 0 0) [] := hO_0.old (bal (Below.refl _ _) (.cells #[.int .i64 x, .int .i64 z] 58))
    have hO_10 : OwnP ((z0.drew.alloc (.cells #[.int .i64 x, .int .i64 z] 58)).alloc (.cells #[] 58)) z0.heap.size (.slice (some ⟨z0.heap.size + 1, 0, none⟩) 0 0) [] := by
      have := World.ownsRow_lit (size := 2) (e := 58) (base := z0.heap.size) (z0.drew.alloc (.cells #[.int .i64 x, .int .i64 z] 58)) #[] 0 hB_1.size (by simp [maxLen]) (by simp)
      simp at this
      exact this
    have hc_01 : RP ((z0.drew.alloc (.cells #[] 58)).alloc (.cells #[.int .i64 x, .int .i64 z] 58)) ((z0.drew.alloc (.cells #[] 58)).alloc (.cells #[.int .i64 x, .int .i64 z] 58)).heap.size (some ⟨z0.heap.size + 1, 0, none⟩) [(x, z)] := by
      have := gate_new (z0.drew.alloc (.cells #[] 58)) x z
      simp at this ⊢
      exact this
    have hc_10 : RP ((z0.drew.alloc (.cells #[.int .i64 x, .int .i64 z] 58)).alloc (.cells #[] 58)) ((z0.drew.alloc (.cells #[.int .i64 x, .int .i64 z] 58)).alloc (.cells #[] 58)).heap.size (some ⟨z0.heap.size, 0, none⟩) [(x, z)] := (gate_new z0.drew x z).nx (bal (Below.refl _ _) _)
    have hne_10 : some z0.heap.size ≠ (Value.slice (some ⟨z0.heap.size + 1, 0, none⟩) 0 0).ownBlock := by simp [Value.ownBlock]
    have hne_01 : some (z0.heap.size + 1) ≠ (Value.slice (some ⟨z0.heap.size, 0, none⟩) 0 0).ownBlock := by simp [Value.ownBlock]
    go_region_held3 (fun w' => w'.cell? ⟨w.heap.size + 1, 2, none⟩ = some (.slice AG G.length cG) ∧ w'.cell? ⟨w.heap.size + 2, 0, none⟩ = some (.int .i64 x) ∧ w'.cell? ⟨w.heap.size + 2, 1, none⟩ = some (.int .i64 z))
      (first | exact Kz | exact Kd | exact K_0 | exact K_1 | exact K_01 | exact K_10 | exact Kc | exact Kx | exact K5 | exact K6 | go_keep)
      (first
            | (refine stepPg rfl (.tmp 30) (.tmp 32) rfl z0.heap.size _ [] rfl hO_10 AG cG G rfl (HAZ.out.g.nx hB_10) hB_10.size (by have := HG.out.1; simp; omega) HG.out.2 ?_; intro v4 w4 hO4 hB4 hg4; have hB4' := hB_10.trans hB4; have Kc := HKC.out _ (bnx HZ.out hB4'); have hz4 := hB4'.size; have hc4 := gate_kept hc_10 hg4 hne_10)
            | (refine stepPg rfl (.tmp 30) (.tmp 32) rfl z0.heap.size _ [] rfl hO_01 AG cG G rfl (HAZ.out.g.nx hB_01) hB_01.size (by have := HG.out.1; simp; omega) HG.out.2 ?_; intro v4 w4 hO4 hB4 hg4; have hB4' := hB_01.trans hB4; have Kc := HKC.out _ (bnx HZ.out hB4'); have hz4 := hB4'.size; have hc4 := gate_kept hc_01 hg4 hne_01)
            | (refine stepPg rfl (.tmp 30) (.tmp 32) rfl z0.heap.size _ [] rfl hO_0 AG cG G rfl (HAZ.out.g.nx hB_0) hB_0.size (by have := HG.out.1; simp; omega) HG.out.2 ?_; intro v4 w4 hO4 hB4 hg4; have hB4' := hB_0.trans hB4; have Kc := HKC.out _ (bnx HZ.out hB4'); have hz4 := hB4'.size; have hO4x := hO4.old (bal (Below.refl w4.heap.size w4) (.cells #[.int .i64 x, .int .i64 z] 58)); have hBx := bal hB4' (.cells #[.int .i64 x, .int .i64 z] 58); have hcx := gate_new w4 x z; have Kx := HKC.out _ (bnx HZ.out hBx); have hzx := hBx.size)
            | (refine stepPg rfl (.tmp 33) (.tmp 35) rfl z0.heap.size _ ([] ++ G) rfl hO4 (some _) 1 [(x, z)] rfl hc4 hz4 (by have := HG.out.1; simp; omega) (fun e => by cases e) ?_; intro v5 w5 hO5 hB5 _; obtain ⟨GM, hGM⟩ : ∃ GM, [] ++ G ++ [(x, z)] = GM := ⟨_, rfl⟩; rw [hGM] at hO5; obtain ⟨AM, cM, rfl, hr5, _⟩ := OwnP.val hO5; have hB5' := hB4'.trans hB5; have K5 := HKC.out _ (bnx HZ.out hB5'); have hxw := HKZ.out.nx hB5' (by have := HSZ.out; omega); have hxc := hxw.k2; have hfr := (hB5'.frozen (p := ⟨b8, 2, none⟩) (by have := HSZ.out; show b8 < _; omega)).trans HFZ.out; have hbl := bnx HZ.out hB5'; have K6 := HKC.out _ (hbl.setCell (p := ⟨b8, 2, none⟩) (by have := HB8.out; show u1.heap.size ≤ b8; omega) (.slice AM GM.length cM)))
            | (refine stepPg rfl (.tmp 33) (.tmp 35) rfl z0.heap.size _ ([] ++ G) rfl hO4x (some _) 1 [(x, z)] rfl hcx hzx (by have := HG.out.1; simp; omega) (fun e => by cases e) ?_; intro v5 w5 hO5 hB5 _; obtain ⟨GM, hGM⟩ : ∃ GM, [] ++ G ++ [(x, z)] = GM := ⟨_, rfl⟩; rw [hGM] at hO5; obtain ⟨AM, cM, rfl, hr5, _⟩ := OwnP.val hO5; have hB5' := hBx.trans hB5; have K5 := HKC.out _ (bnx HZ.out hB5'); have hxw := HKZ.out.nx hB5' (by have := HSZ.out; omega); have hxc := hxw.k2; have hfr := (hB5'.frozen (p := ⟨b8, 2, none⟩) (by have := HSZ.out; show b8 < _; omega)).trans HFZ.out; have hbl := bnx HZ.out hB5'; have K6 := HKC.out _ (hbl.setCell (p := ⟨b8, 2, none⟩) (by have := HB8.out; show u1.heap.size ≤ b8; omega) (.slice AM GM.length cM))))
    all_goals
      have hM := More.done I AL AG AO AB AC AN cL cG cO cB cC cN L G O D C N hGM cM hr5 hxw hfr hbl (by have := HB8.out; omega)
      go_wp2_with fail
      go_meet
      exact ⟨rfl, hM⟩
  case rest =>
    obtain ⟨rfl, AM, cM, hkm, hrm, hbm⟩ := hcut
    have HU7 := Lib.hid (bnx HU1.out hbm)
    obtain ⟨GM, hGM⟩ : ∃ GM, G ++ [(x, z)] = GM := ⟨_, rfl⟩
    rw [hGM] at hkm hrm
    have HGM := Lib.hid hGM
    have hbk : b8 < wc.heap.size := block_lt_of_cell hkm.k0
    have hA7 := HA.out.nx HU7.out
    have HAM := Lib.hid (show RA wc wc.heap.size AL AM AO AB AC AN L GM O D C N from ⟨hA7.l, hrm, hA7.o, hA7.d, hA7.c, hA7.n⟩)
    have HKM := Lib.hid hkm
    have HBK := Lib.hid hbk
    obtain ⟨k0, k1, k2, k3, k4, k5, k6⟩ := HK.out.nx HU7.out (by have := HS0.out; omega)
    have C1 := HCM.out AG cG G wc hA7
    clear hGM hkm hrm hbm hbk hA7 HZ HB8 HKZ HFZ HSZ HU1 HG
    go_wp2_with fail
    refine C1.mono ?_; rintro e u2 ⟨bm, rfl, pm, hu2⟩
    have HU2 := Lib.hid (bnx HU7.out hu2)
    have HF2 := Lib.hid (HB.out.trans (HU2.out.mono HB.out.size))
    have HUC := Lib.hid hu2
    have HP := Lib.hid pm
    clear C1 hu2 pm k0 k1 k2 k3 k4 k5 k6
    cases bm
    · go_wp2
      go_ret
      exact ⟨rfl, HF2.out⟩
    obtain ⟨k0, k1, k2, k3, k4, k5, k6⟩ := HKM.out.nx HUC.out HBK.out
    have C2 := HCM.out AM cM GM u2 (HAM.out.nx HUC.out)
    have hMa := HP.out (by simp)
    have HMA := Lib.hid hMa.1.1
    have HRT := Lib.hid hMa.2
    have HLE := Lib.hid hMa.1.2
    clear hMa HP HCM HF2
    go_wp2_with fail
    refine C2.mono ?_; rintro e u3 ⟨bm, rfl, pm, hu3⟩
    have HU3 := Lib.hid (bnx HU2.out hu3)
    have HF3 := Lib.hid (HB.out.trans (HU3.out.mono HB.out.size))
    have HUD := Lib.hid (bnx HUC.out hu3)
    have HP := Lib.hid pm
    clear C2 hu3 pm k0 k1 k2 k3 k4 k5 k6
    cases bm
    · go_wp2
      go_ret
      exact ⟨rfl, HF3.out⟩
    have hMb := HP.out (by simp)
    have HMB := Lib.hid hMb.1.1
    clear hMb HP
    by_cases z1 : 60 < st.length
    · have d1 : decide (60 < st.length) = true := decide_eq_true z1
      have d2 : decide ((60 : Int) < (st.length : Int)) = true := decide_eq_true (by omega)
      go_wp2
      go_ret
      exact ⟨rfl, HF3.out⟩
    have d1 : decide (60 < st.length) = false := decide_eq_false z1
    have d2 : decide ((60 : Int) < (st.length : Int)) = false := decide_eq_false (by omega)
    by_cases z2 : 60 < inp.length
    · have d3 : decide (60 < inp.length) = true := decide_eq_true z2
      have d4 : decide ((60 : Int) < (inp.length : Int)) = true := decide_eq_true (by omega)
      go_wp2
      go_ret
      exact ⟨rfl, HF3.out⟩
    have d3 : decide (60 < inp.length) = false := decide_eq_false z2
    have d4 : decide ((60 : Int) < (inp.length : Int)) = false := decide_eq_false (by omega)
    have HKK : Hid (∀ wx, Below u3.heap.size u3 wx → KA wx (w.heap.size + 1) I AL AG AO AB AC AN cL cG cO cB cC cN L G O D C N ∧ KA wx b8 I AL AM AO AB AC AN cL cM cO cB cC cN L GM O D C N ∧ wx.cell? ⟨w.heap.size + 2, 0, none⟩ = some (.int .i64 x) ∧ wx.cell? ⟨w.heap.size + 2, 1, none⟩ = some (.int .i64 z)) := Lib.hid fun wx hx => by
      have hx0 := bnx HU3.out hx
      exact ⟨HK.out.nx hx0 (by have := HS0.out; omega), HKM.out.nx (bnx HUD.out hx) HBK.out, (hx0.cell (p := ⟨w.heap.size + 2, 0, none⟩) (by have := HS0.out; show w.heap.size + 2 < _; omega)).trans HGX.out.1, (hx0.cell (p := ⟨w.heap.size + 2, 1, none⟩) (by have := HS0.out; show w.heap.size + 2 < _; omega)).trans HGX.out.2⟩
    have hca : ∀ wx, Below u3.heap.size u3 wx → RA wx wx.heap.size AL AG AO AB AC AN L G O D C N ∧ RA wx wx.heap.size AL AM AO AB AC AN L GM O D C N ∧ RB wx wx.heap.size AS st ∧ RB wx wx.heap.size AI inp := fun wx hx => ⟨HA.out.nx (bnx HU3.out hx), HAM.out.nx (bnx HUD.out hx), HS.out.nx (bnx HU3.out hx), HI.out.nx (bnx HU3.out hx)⟩
    have hcv : ∀ wx, Below u3.heap.size u3 wx → Calls Try.prog 13 #[.agg #[.int .i64 I, .slice AL L.length cL, .slice AG G.length cG, .slice AO O.length cO, .slice AB D.length cB, .slice AC C.length cC, .slice AN N.length cN], .slice AS st.length cs, .slice AI inp.length ci] wx (RetB0 wx (orNil (fit I L st inp) (valsOf st inp G)) (errX (fit I L st inp))) := fun wx hx => Values_any I AL AG AO AB AC AN cL cG cO cB cC cN L G O D C N AS AI cs ci st inp wx (hca wx hx).1 (hca wx hx).2.2.1 (hca wx hx).2.2.2 HMA.out
    have hcvm : ∀ wx, Below u3.heap.size u3 wx → Calls Try.prog 13 #[.agg #[.int .i64 I, .slice AL L.length cL, .slice AM GM.length cM, .slice AO O.length cO, .slice AB D.length cB, .slice AC C.length cC, .slice AN N.length cN], .slice AS st.length cs, .slice AI inp.length ci] wx (RetB0 wx (orNil (fit I L st inp) (valsOf st inp GM)) (errX (fit I L st inp))) := fun wx hx => Values_any I AL AM AO AB AC AN cL cM cO cB cC cN L GM O D C N AS AI cs ci st inp wx (hca wx hx).2.1 (hca wx hx).2.2.1 (hca wx hx).2.2.2 HMB.out
    have hct : ∀ wx, Below u3.heap.size u3 wx → Calls Try.prog 15 #[.agg #[.int .i64 I, .slice AL L.length cL, .slice AG G.length cG, .slice AO O.length cO, .slice AB D.length cB, .slice AC C.length cC, .slice AN N.length cN], .slice AS st.length cs, .slice AI inp.length ci] wx (RetT wx (orNil (fit I L st inp) (nextL L G st inp)) (orNil (fit I L st inp) (tellL O G st inp)) (orNil (fit I L st inp) (tellL D G st inp)) (orNil (fit I L st inp) (tellL C G st inp)) (errX (fit I L st inp))) := fun wx hx => Step_any I AL AG AO AB AC AN cL cG cO cB cC cN L G O D C N AS AI cs ci st inp wx (hca wx hx).1 (hca wx hx).2.2.1 (hca wx hx).2.2.2 HMA.out
    have hctm : ∀ wx, Below u3.heap.size u3 wx → Calls Try.prog 15 #[.agg #[.int .i64 I, .slice AL L.length cL, .slice AM GM.length cM, .slice AO O.length cO, .slice AB D.length cB, .slice AC C.length cC, .slice AN N.length cN], .slice AS st.length cs, .slice AI inp.length ci] wx (RetT wx (orNil (fit I L st inp) (nextL L GM st inp)) (orNil (fit I L st inp) (tellL O GM st inp)) (orNil (fit I L st inp) (tellL D GM st inp)) (orNil (fit I L st inp) (tellL C GM st inp)) (errX (fit I L st inp))) := fun wx hx => Step_any I AL AM AO AB AC AN cL cM cO cB cC cN L GM O D C N AS AI cs ci st inp wx (hca wx hx).2.1 (hca wx hx).2.2.1 (hca wx hx).2.2.2 HMB.out
    clear HA HAM HS HI HMA HMB hca HU2 HU7 HUC HKM HK HGX
    cases hf : fit I L st inp
    · rw [hf] at hcv hcvm hct hctm
      simp only [orNil, errX, Bool.false_eq_true, if_false] at hcv hcvm hct hctm
      have HCVM := Lib.hid hcvm
      have HCT := Lib.hid hct
      have HCTM := Lib.hid hctm
      obtain ⟨k0, k1, k2, k3, k4, k5, k6⟩ := (HKK.out u3 (Below.refl _ _)).1
      have c13 := hcv u3 (Below.refl _ _)
      clear hf hcv hcvm hct hctm
      go_wp2_with fail
      refine c13.mono ?_; rintro e u4 ⟨A4, c4, rfl, _, _, _, _, hu4⟩
      have H4 := Lib.hid hu4
      have c13b := HCVM.out u4 hu4
      clear k0 k1 k2 k3 k4 k5 k6 c13 hu4
      obtain ⟨k0, k1, k2, k3, k4, k5, k6⟩ := (HKK.out u4 H4.out).2.1
      go_wp2_with fail
      refine c13b.mono ?_; rintro e u5 ⟨A5, c5, rfl, _, _, _, _, hu5⟩
      have H5 := Lib.hid (bnx H4.out hu5)
      have c15 := HCT.out u5 H5.out
      clear k0 k1 k2 k3 k4 k5 k6 c13b hu5 HCVM
      obtain ⟨k0, k1, k2, k3, k4, k5, k6⟩ := (HKK.out u5 H5.out).1
      go_wp2_with fail
      refine c15.mono ?_; rintro e u6 ⟨vn, vo, vd, vc, rfl, ⟨An, cn, rfl, _⟩, ⟨Ao, co, rfl, _⟩, ⟨Ad, cd, rfl, _⟩, ⟨Ac, cc, rfl, _⟩, hu6⟩
      have hx6 := bal (bnx H5.out hu6) (.cells #[.slice Ao 0 co, .slice Ad 0 cd, .slice Ac 0 cc] 40)
      have H6 := Lib.hid hx6
      have c15b := HCTM.out _ hx6
      obtain ⟨g0, g1, g2, g3, g4, g5, g6⟩ := (HKK.out _ hx6).2.1
      clear k0 k1 k2 k3 k4 k5 k6 c15 hu6 hx6 HCT
      go_wp2_with fail
      refine c15b.mono ?_; rintro e u7 ⟨vn, vo, vd, vc, rfl, ⟨Am, cm, rfl, _⟩, ⟨Ap, cp, rfl, _⟩, ⟨Aq, cq, rfl, _⟩, ⟨Ar, cr, rfl, _⟩, hu7⟩
      have hx7 := bal (bnx H6.out hu7) (.cells #[.slice Ap 0 cp, .slice Aq 0 cq, .slice Ar 0 cr] 40)
      have HFE := Lib.hid (HF3.out.trans (hx7.mono HF3.out.size))
      clear g0 g1 g2 g3 g4 g5 g6 c15b hu7 hx7 HCTM
      go_wp2
      go_ret
      exact ⟨rfl, HFE.out⟩
    rw [hf] at hcv hcvm hct hctm
    simp only [orNil, errX, if_true] at hcv hcvm hct hctm
    obtain ⟨f1, f2⟩ := fit_yes hf
    have hGM := HGM.out
    obtain ⟨e1, e2, e3⟩ := tell_more (x, z) HRT.out f1 f2
    have ev := vals_more st inp G (x, z)
    rw [hGM] at e1 e2 e3 ev
    rw [e1, e2, e3] at hctm
    have hvl := valsOf_length st inp G
    have hvb : (valsOf st inp G).length ≤ 1000 := by have := HLE.out; omega
    obtain ⟨V, hV⟩ : ∃ V, valsOf st inp G = V := ⟨_, rfl⟩
    obtain ⟨VM, hVM⟩ : ∃ V, valsOf st inp GM = V := ⟨_, rfl⟩
    rw [hV] at hcv hvb ev
    rw [hVM] at hcvm ev
    generalize nextL L G st inp = TN at *
    generalize tellL O G st inp = TO at *
    generalize tellL D G st inp = TD at *
    generalize tellL C G st inp = TC at *
    generalize tellL O GM st inp = TP at *
    have HCVM := Lib.hid hcvm
    have HCT := Lib.hid hct
    have HCTM := Lib.hid hctm
    have HEV := Lib.hid ev
    have HVB := Lib.hid hvb
    obtain ⟨k0, k1, k2, k3, k4, k5, k6⟩ := (HKK.out u3 (Below.refl _ _)).1
    have c13 := hcv u3 (Below.refl _ _)
    clear hf f1 f2 hGM hV hVM e1 e2 e3 ev hvl hvb hcv hcvm hct hctm
    go_wp2_with fail
    refine c13.mono ?_; rintro e u4 ⟨A4, c4, rfl, r4, _, n4, m4, hu4⟩
    have H4 := Lib.hid hu4
    have R4 := Lib.hid r4
    have c13b := HCVM.out u4 hu4
    clear k0 k1 k2 k3 k4 k5 k6 c13 hu4 r4 n4 m4
    obtain ⟨k0, k1, k2, k3, k4, k5, k6⟩ := (HKK.out u4 H4.out).2.1
    go_wp2_with fail
    refine c13b.mono ?_; rintro e u5 ⟨A5, c5, rfl, r5, _, n5, m5, hu5⟩
    have H5 := Lib.hid (bnx H4.out hu5)
    have R4' := Lib.hid (R4.out.nx hu5)
    have R5 := Lib.hid r5
    have N5 := Lib.hid n5
    have c15 := HCT.out u5 H5.out
    clear k0 k1 k2 k3 k4 k5 k6 c13b hu5 HCVM R4 r5 n5 m5
    obtain ⟨k0, k1, k2, k3, k4, k5, k6⟩ := (HKK.out u5 H5.out).1
    go_wp2_with fail
    refine c15.mono ?_; rintro e u6 ⟨vn, vo, vd, vc, rfl, ⟨An, cn, rfl, rn, zn, nn, mn⟩, ⟨Ao, co, rfl, ro, zo, no, mo⟩, ⟨Ad, cd, rfl, rd, zd, nd, md⟩, ⟨Ac, cc, rfl, rc, zc, nc, mc⟩, hu6⟩
    have hy6 := bal (Below.refl u6.heap.size u6) (.cells #[.slice Ao TO.length co, .slice Ad TD.length cd, .slice Ac TC.length cc] 40)
    have ht6 := T3.new u6 (.slice Ao TO.length co) (.slice Ad TD.length cd) (.slice Ac TC.length cc) 40
    have hs6 : u6.heap.size < (u6.alloc (.cells #[.slice Ao TO.length co, .slice Ad TD.length cd, .slice Ac TC.length cc] 40)).heap.size := by simp
    have hx6 := bnx (bnx H5.out hu6) hy6
    have H6 := Lib.hid hx6
    have R46 := Lib.hid (R4'.out.nx (bnx hu6 hy6))
    have R56 := Lib.hid (R5.out.nx (bnx hu6 hy6))
    have Q6 := Lib.hid (And.intro (rn.nx hy6) (And.intro (rd.nx hy6) (rc.nx hy6)))
    have M6 := Lib.hid (And.intro (Nat.le_trans nn mn) (And.intro (Nat.le_trans nd md) (Nat.le_trans nc mc)))
    have T6 := Lib.hid ht6
    have S6 := Lib.hid hs6
    have c15b := HCTM.out _ hx6
    obtain ⟨g0, g1, g2, g3, g4, g5, g6⟩ := (HKK.out _ hx6).2.1
    clear k0 k1 k2 k3 k4 k5 k6 c15 hu6 hx6 HCT R4' R5 rn zn nn mn ro zo no mo rd zd nd md rc zc nc mc hy6 ht6 hs6
    go_wp2_with fail
    refine c15b.mono ?_; rintro e u7 ⟨vn, vo, vd, vc, rfl, ⟨Am, cm, rfl, rm, zm, nm, mm⟩, ⟨Ap, cp, rfl, rp, zp, np, mp⟩, ⟨Aq, cq, rfl, rq, zq, nq, mq⟩, ⟨Ar, cr, rfl, rr, zr, nr, mr⟩, hu7⟩
    generalize u6.alloc (.cells #[.slice Ao TO.length co, .slice Ad TD.length cd, .slice Ac TC.length cc] 40) = x6 at *
    obtain ⟨b6, hb6⟩ : ∃ b, u6.heap.size = b := ⟨_, rfl⟩
    rw [hb6] at T6 S6 ⊢
    have hy7 := bal (Below.refl u7.heap.size u7) (.cells #[.slice Ap TP.length cp, .slice Aq TD.length cq, .slice Ar TC.length cr] 40)
    have ht7 := T3.new u7 (.slice Ap TP.length cp) (.slice Aq TD.length cq) (.slice Ar TC.length cr) 40
    have hs7 : u7.heap.size < (u7.alloc (.cells #[.slice Ap TP.length cp, .slice Aq TD.length cq, .slice Ar TC.length cr] 40)).heap.size := by simp
    have hx7 := bnx hu7 hy7
    have X7 := Lib.hid (bnx H6.out hx7)
    have HF7 := Lib.hid (HF3.out.trans (X7.out.mono HF3.out.size))
    have R47 := Lib.hid (R46.out.nx hx7)
    have R57 := Lib.hid (R56.out.nx hx7)
    have Q7 := Lib.hid (And.intro (Q6.out.1.nx hx7) (And.intro (Q6.out.2.1.nx hx7) (Q6.out.2.2.nx hx7)))
    have P7 := Lib.hid (And.intro (rm.nx hy7) (And.intro (rq.nx hy7) (rr.nx hy7)))
    have T67 := Lib.hid (T6.out.nx hx7 S6.out)
    have S67 := Lib.hid (Nat.lt_of_lt_of_le S6.out hx7.size)
    have T7 := Lib.hid ht7
    have S7 := Lib.hid hs7
    clear g0 g1 g2 g3 g4 g5 g6 c15b hu7 HCTM rm zm nm mm rp zp np mp rq zq nq mq rr zr nr mr hy7 ht7 hs7 hx7 R46 R56 Q6 T6 S6 hb6
    go_upto_region 17 with fail
    generalize u7.alloc (.cells #[.slice Ap TP.length cp, .slice Aq TD.length cq, .slice Ar TC.length cr] 40) = x7 at *
    obtain ⟨b7, hb7⟩ : ∃ b, u7.heap.size = b := ⟨_, rfl⟩
    rw [hb7] at T7 S7 ⊢
    have HTT : Hid (∀ wx, Below x7.heap.size x7 wx → wx.cell? ⟨b6, 1, none⟩ = some (.slice Ad TD.length cd) ∧ wx.cell? ⟨b6, 2, none⟩ = some (.slice Ac TC.length cc) ∧ wx.cell? ⟨b7, 1, none⟩ = some (.slice Aq TD.length cq) ∧ wx.cell? ⟨b7, 2, none⟩ = some (.slice Ar TC.length cr)) := Lib.hid fun wx hx => ⟨(T67.out.nx hx S67.out).c1, (T67.out.nx hx S67.out).c2, (T7.out.nx hx S7.out).c1, (T7.out.nx hx S7.out).c2⟩
    have CF1 : Hid (∀ wx, Below x7.heap.size x7 wx → Calls Try.prog 21 #[.slice An TN.length cn, .slice Am TN.length cm] wx (RetV wx (.bool true))) := Lib.hid fun wx hx => by
      have := Flags_any An Am cn cm TN TN wx (Q7.out.1.nx hx) (P7.out.1.nx hx) M6.out.1 M6.out.1
      simpa using this
    have CF2 : Hid (∀ wx, Below x7.heap.size x7 wx → Calls Try.prog 21 #[.slice Ad TD.length cd, .slice Aq TD.length cq] wx (RetV wx (.bool true))) := Lib.hid fun wx hx => by
      have := Flags_any Ad Aq cd cq TD TD wx (Q7.out.2.1.nx hx) (P7.out.2.1.nx hx) M6.out.2.1 M6.out.2.1
      simpa using this
    have CF3 : Hid (∀ wx, Below x7.heap.size x7 wx → Calls Try.prog 21 #[.slice Ac TC.length cc, .slice Ar TC.length cr] wx (RetV wx (.bool true))) := Lib.hid fun wx hx => by
      have := Flags_any Ac Ar cc cr TC TC wx (Q7.out.2.2.nx hx) (P7.out.2.2.nx hx) M6.out.2.2 M6.out.2.2
      simpa using this
    have hkx := HKK.out x7 X7.out
    have gx := hkx.2.2.1
    have gz := hkx.2.2.2
    have hev := HEV.out
    have hvb := HVB.out
    have hvm : VM.length = V.length + 1 := by rw [hev]; simp
    have d8 : ((VM.length : Int) != (V.length : Int) + 1) = false := by rw [hvm]; simp
    have hlt : V.length < VM.length := by omega
    have hlt' : (V.length : Int) < (VM.length : Int) := by omega
    have hle : V.length ≤ c5 := by have := N5.out; omega
    obtain ⟨Z, hZ⟩ : ∃ Z, cutA A5 c5 0 = Z := ⟨_, rfl⟩
    have r5 := R57.out.cut (k := 0) (c := c5) (m := V.length) N5.out
    have eV : (VM.drop 0).take V.length = V := by rw [hev]; simp
    rw [eV, hZ] at r5
    have CFQ : Hid (∀ n, Calls Try.prog 21 #[.slice Z V.length c5, .slice A4 V.length c4] (x7.drewN n) (fun e w'' => e = .returned (.bool true) ∧ ∃ m, w'' = (x7.drewN n).drewN m)) := Lib.hid fun n => by
      have := Flags_q Z A4 c5 c4 V V (x7.drewN n) (r5.nx (drw n)) (R47.out.nx (drw n)) (by unfold maxLen; omega) (by unfold maxLen; omega)
      simpa using this
    have HLT : Hid (∀ l, -9223372036854775808 ≤ l → l ≤ 9223372036854775807 → ∀ n, Calls Try.prog 23 #[.slice A4 V.length c4, .int .i64 l] (x7.drewN n) (RetS (x7.drewN n) (.bool (lt V l)))) := Lib.hid fun l h0 h1 n => Lit_any A4 c4 V l (x7.drewN n) (R47.out.nx (drw n)) (by have := HVB.out; unfold maxLen; omega) h0 h1
    have CA : Hid (∀ n, Calls Try.prog 23 #[.slice A4 V.length c4, .int .i64 x] (x7.drewN n) (RetS (x7.drewN n) (.bool (lt V x)))) := Lib.hid fun n => HLT.out x HXZ.out.1.1 HXZ.out.1.2 n
    have CB : Hid (∀ n, Calls Try.prog 23 #[.slice A4 V.length c4, .int .i64 z] (x7.drewN n) (RetS (x7.drewN n) (.bool (lt V z)))) := Lib.hid fun n => HLT.out z HXZ.out.2.1 HXZ.out.2.2 n
    obtain ⟨ad5, hA5, hab5, hq5⟩ := R57.out V.length hlt
    have eq5 : VM.getD V.length false = (lt V x && lt V z) := by rw [hev]; simp
    rw [eq5] at hq5
    have sl : ∀ wx, (Instr.slice 28 (.slice A5 VM.length c5) none (some (.int .i64 (V.length : Int))) none).run Try.prog wx = .ok (.slice Z V.length c5) wx := fun wx => by
      rw [← hZ]
      exact slice28_h A5 VM.length c5 V.length (V.length : Int) rfl hle wx
    subst hA5
    clear hkx hev hvm hZ r5 eV eq5 HLT R47 R57 Q7 P7 T67 T7 M6 HVB HEV HKK HXZ hab5 hle
    generalize lt V x = xa at *
    generalize lt V z = xb at *
    cases xa
    · simp only [Bool.false_and] at hq5
      go_wp2
      go_quiet (first | exact Calls.quiet_of (CFQ.out _) | exact quietS (CA.out _) | exact quietS (CB.out _))
      clear CFQ CA CB sl gx gz hq5
      go_wp2_with fail
      refine (CF1.out _ (drw _)).mono ?_; rintro e y1 ⟨rfl, hy1⟩
      have Y1 := bnx (drw _) hy1
      obtain ⟨q1, q2, q3, q4⟩ := HTT.out y1 Y1
      have c22 := CF2.out y1 Y1
      go_wp2_with fail
      refine c22.mono ?_; rintro e y2 ⟨rfl, hy2⟩
      have Y2 := bnx Y1 hy2
      obtain ⟨p1, p2, p3, p4⟩ := HTT.out y2 Y2
      have c23 := CF3.out y2 Y2
      clear c22 q1 q2 q3 q4
      go_wp2_with fail
      refine c23.mono ?_; rintro e y3 ⟨rfl, hy3⟩
      have HFE := Lib.hid (HF7.out.trans ((bnx Y2 hy3).mono HF7.out.size))
      clear c23 p1 p2 p3 p4
      go_wp2
      go_ret
      exact ⟨rfl, HFE.out⟩
    · cases xb
      · simp only [Bool.true_and] at hq5
        go_wp2
        go_quiet (first | exact Calls.quiet_of (CFQ.out _) | exact quietS (CA.out _) | exact quietS (CB.out _))
        clear CFQ CA CB sl gx gz hq5
        go_wp2_with fail
        refine (CF1.out _ (drw _)).mono ?_; rintro e y1 ⟨rfl, hy1⟩
        have Y1 := bnx (drw _) hy1
        obtain ⟨q1, q2, q3, q4⟩ := HTT.out y1 Y1
        have c22 := CF2.out y1 Y1
        go_wp2_with fail
        refine c22.mono ?_; rintro e y2 ⟨rfl, hy2⟩
        have Y2 := bnx Y1 hy2
        obtain ⟨p1, p2, p3, p4⟩ := HTT.out y2 Y2
        have c23 := CF3.out y2 Y2
        clear c22 q1 q2 q3 q4
        go_wp2_with fail
        refine c23.mono ?_; rintro e y3 ⟨rfl, hy3⟩
        have HFE := Lib.hid (HF7.out.trans ((bnx Y2 hy3).mono HF7.out.size))
        clear c23 p1 p2 p3 p4
        go_wp2
        go_ret
        exact ⟨rfl, HFE.out⟩
      · simp only [Bool.true_and] at hq5
        go_wp2
        go_quiet (first | exact Calls.quiet_of (CFQ.out _) | exact quietS (CA.out _) | exact quietS (CB.out _))
        clear CFQ CA CB sl gx gz hq5
        go_wp2_with fail
        refine (CF1.out _ (drw _)).mono ?_; rintro e y1 ⟨rfl, hy1⟩
        have Y1 := bnx (drw _) hy1
        obtain ⟨q1, q2, q3, q4⟩ := HTT.out y1 Y1
        have c22 := CF2.out y1 Y1
        go_wp2_with fail
        refine c22.mono ?_; rintro e y2 ⟨rfl, hy2⟩
        have Y2 := bnx Y1 hy2
        obtain ⟨p1, p2, p3, p4⟩ := HTT.out y2 Y2
        have c23 := CF3.out y2 Y2
        clear c22 q1 q2 q3 q4
        go_wp2_with fail
        refine c23.mono ?_; rintro e y3 ⟨rfl, hy3⟩
        have HFE := Lib.hid (HF7.out.trans ((bnx Y2 hy3).mono HF7.out.size))
        clear c23 p1 p2 p3 p4
        go_wp2
        go_ret
        exact ⟨rfl, HFE.out⟩
end Go.Proofs.Ytkdocjcpehmljaa
/- How long a slice of gates may be that came in with what SimMore is asked of. -/
namespace Go.Proofs.Ytkdocjcpehmljaa
open Go.RowKit
theorem bytes58 : Try.prog.bytesOf 58 = 16 := by kernel_rfl
set_option maxRecDepth 100000 in
theorem sized67 {H : Type} {enc : TypeId × Value → H} {W : World} {fuel : Nat} {y : DataW H × List MemPlace} {v0 v1 v3 v4 v5 v6 v7 v8 v9 v10 : Value} {AG : Option Addr} {n c : Nat} (hw : ∀ k ∈ DataW.weights Try.prog 67 y.1, k ≤ reachBytes)
    (h : DataW.trod enc Try.prog W 0 (fun _ => true) true fuel 67 [v0, v1, .slice AG n c, v3, v4, v5, v6, v7, v8, v9, v10] = some y) : n * 16 ≤ 140737488351232 := by
  obtain ⟨xs, k, hk, hxy, _, hxl, hf⟩ := DataW.trod_struct Try.underlying67 h
  match xs, hxl with
  | [y0, y1, y2, y3], _ =>
    have g0 := hf 0 _ rfl
    simp [cells27] at g0
    subst hxy
    have hw0 : ∀ k ∈ DataW.weights Try.prog 27 y0.1, k ≤ reachBytes := fun k hk => by
      refine hw k ?_
      show k ∈ DataW.weights Try.prog 67 (.agg [y0.1, y1.1, y2.1, y3.1])
      rw [DataW.weights67]
      exact DataW.weights_mem_each (j := 0) rfl rfl k hk
    obtain ⟨ys, k2, hk2, hyy, _, hyl, hg⟩ := DataW.trod_struct Try.underlying27 g0
    match ys, hyl with
    | [z0, z1, z2, z3, z4, z5, z6], _ =>
      have g2 := hg 2 _ rfl
      simp [cells23] at g2
      subst hyy
      have hw2 : ∀ k ∈ DataW.weights Try.prog 23 z2.1, k ≤ reachBytes := fun k hk => by
        refine hw0 k ?_
        show k ∈ DataW.weights Try.prog 27 (.agg [z0.1, z1.1, z2.1, z3.1, z4.1, z5.1, z6.1])
        have e : DataW.weights Try.prog 27 (.agg [z0.1, z1.1, z2.1, z3.1, z4.1, z5.1, z6.1]) = DataW.weightsEach Try.prog [3, 22, 23, 24, 24, 24, 25] [z0.1, z1.1, z2.1, z3.1, z4.1, z5.1, z6.1] := by simp [DataW.weights, Try.underlying27]
        rw [e]
        exact DataW.weights_mem_each (j := 2) rfl rfl k hk
      rcases Go.Deep.open_slice Try.underlying23 g2 with ⟨hcs, _⟩ | ⟨a, len, cap, m, n', D, Pl, hcs, _, hl, hm, hmm, hx, _⟩
      · simp at hcs
        obtain ⟨_, rfl, _⟩ := hcs
        omega
      · simp at hcs
        obtain ⟨_, rfl, rfl⟩ := hcs
        subst hx
        have := hw2 ((n + (m - n)) * 16) (by simp [DataW.weights, Try.underlying23, bytes58])
        simp only [reachBytes] at this
        omega
end Go.Proofs.Ytkdocjcpehmljaa
