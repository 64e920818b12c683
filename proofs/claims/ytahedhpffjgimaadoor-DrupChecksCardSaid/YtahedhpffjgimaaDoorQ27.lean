/-
  The reference's Check, its loop.
  DrupChecks, walked.
-/
import Derived.Test.YtahedhpffjgimaaDoorProg
import Derived.WalkKit
import Derived.WalkSpells
import Derived.WalkLawsBesides
import Derived.Lib.Hide
import Derived.BigQuiet
import Derived.Deep.QuietTactic
import Derived.Deep.RegionWith
import Derived.Deep.RegionHeld3
import Derived.Test.YtahedhpffjgimaaDoorQ26
import Derived.Test.YtahedhpffjgimaaDoorQ21
set_option linter.unusedVariables false
/- The reference's Check, its loop. -/
namespace Go.Proofs.YtahedhpffjgimaaDoor
open Go.RowKit
open Go.Lib Go.Sort
theorem far_cell {w w2 : World} {row : Option Nat} (hg : w.grownBy w2 row) (a : Addr) (hlt : a.block < w.heap.size) (hne : some a.block ≠ row) : w2.cell? a = w.cell? a := World.cell?_of_block (hg.block a.block hlt hne)
theorem len_ne {u : List Int} (h : u ≠ []) : u.length ≠ 0 := fun e => h (List.eq_nil_of_length_eq_zero e)
theorem box1 (w : World) (x : Value) : (w.alloc (.cells #[x] 26)).cell? ⟨w.heap.size, 0, none⟩ = some x := by go_simp
set_option maxRecDepth 100000 in
set_option maxHeartbeats 8000000 in
theorem refCheck_any (LA PA : Option Addr) (k kp : Nat) (n : Int) (L : List (List Int)) (P : List Stp) (w : World) (hL : RCk w w.heap.size LA L) (hk : L.length ≤ k) (hz : LA = none → k = 0) (hP : RS w w.heap.size PA P) (hl : L.length ≤ 20) (hp : P.length ≤ 20) (h6 : ∀ c ∈ L, L60 c) (h7 : ∀ s ∈ P, L60 s.2) :
    Calls Tryd.prog 27 #[.agg #[.int .i64 n, .slice LA L.length k], .slice PA P.length kp] w (RetII w (checkQ (setsOf L) 0 P)) := by
  have F0 := FW.first w LA k n L
  have hz0 : (w.alloc (.cells #[.int .i64 n, .slice LA L.length k] 24)).heap.size = w.heap.size + 1 := by simp
  generalize hw0 : w.alloc (.cells #[.int .i64 n, .slice LA L.length k] 24) = w0 at *
  have b0 := F0.bel
  have R0 : Rw w0 (.slice LA L.length k) L 20 := ⟨⟨LA, k, rfl, hL.nx b0, hk, hz⟩, hl, h6⟩
  have p0 := F0.f0
  have p1 := F0.f1
  have HW0 := Lib.hid hw0
  have HF := Lib.hid F0
  have HP := Lib.hid (hP.nx b0)
  have H7 := Lib.hid h7
  have HR0 := Lib.hid R0
  have HB0 := Lib.hid b0
  obtain ⟨q, hq⟩ : ∃ q, checkQ (setsOf L) 0 P = q := ⟨_, rfl⟩
  rw [hq]
  have HQ0 := Lib.hid hq
  clear hL hk hz hP hl h6 h7 hw0 F0 R0 b0 hz0 hq
  go_enter Tryd.func27, Tryd.ntmps27
  go_wp2_with fail
  rw [HW0.out]
  go_wp2
  go_loopg [6, 7] P.length (fun g s6 s7 wr => ∃ (j : Nat) (S : List (List Int)), j + g = P.length ∧ s7 = .int .i64 j ∧ Rw wr s6 S (20 + j) ∧ Below w0.heap.size w0 wr ∧ Hid (checkQ (setsOf S) j (P.drop j) = q))
  case atStart => exact ⟨0, L, by omega, rfl, HR0.out, Below.refl _ _, HQ0⟩
  case round =>
    obtain ⟨j, S, hj, rfl, hR, hb, HQ⟩ := hrel
    obtain ⟨⟨SA, sc, rfl, hrs, hsc, hsn⟩, hsl, hs6⟩ := hR
    have HS := Lib.hid (And.intro hrs (And.intro hsc (And.intro hsn (And.intro hsl hs6))))
    have HC := Lib.hid hb
    by_cases hlt : j < P.length
    · obtain ⟨g, rfl⟩ : ∃ g, gk = g + 1 := ⟨gk - 1, by omega⟩
      obtain ⟨ad, A1, c1, rfl, hab, hc0, hc1, hr, hlc, hcm⟩ := HP.out j hlt
      have hm6 : L60 (P.getD j (true, [])).2 := H7.out _ (by simp [List.getD_eq_getElem?_getD, hlt])
      have hqq := HQ.out
      rw [dropS P j hlt] at hqq
      have hcc0 := (hb.cell (p := ad.add (j * 2)) (by rw [block_add]; exact hab)).trans hc0
      have hcc1 := (hb.cell (p := ⟨(ad.add (j * 2)).block, (ad.add (j * 2)).off + 1, none⟩) (by show (ad.add (j * 2)).block < _; rw [block_add]; exact hab)).trans hc1
      have HAB := Lib.hid (show (ad.add (j * 2)).block < w0.heap.size by rw [block_add]; exact hab)
      have hlt' : (j : Int) < P.length := by omega
      have hrr := (hr.below hb).mono hb.size
      obtain ⟨ub, hub⟩ : ∃ ub, P.getD j (true, []) = ub := ⟨_, rfl⟩
      rw [hub] at hcc0 hcc1 hlc hrr hm6 hqq
      obtain ⟨d, u⟩ := ub
      simp only at hcc0 hcc1 hlc hrr hm6
      have HU := Lib.hid (And.intro hrr (And.intro hlc (And.intro hcm hm6)))
      have HQQ := Lib.hid hqq
      have HLT := Lib.hid hlt
      clear hrs hsc hsn hsl hs6 hc0 hc1 hr hub hm6 hqq hlc hcm hrr hab
      cases d
      · have HKK : Hid (∀ wx, Below wr.heap.size wr wx → wx.cell? ⟨w.heap.size, 0, none⟩ = some (.int .i64 n) ∧ wx.cell? ⟨(ad.add (j * 2)).block, (ad.add (j * 2)).off + 1, none⟩ = some (.slice A1 u.length c1)) := Lib.hid fun wx hx => ⟨(HF.out.nx (bnx HC.out hx)).f0, (hx.cell (p := ⟨(ad.add (j * 2)).block, (ad.add (j * 2)).off + 1, none⟩) (by show (ad.add (j * 2)).block < _; exact Nat.lt_of_lt_of_le HAB.out HC.out.size)).trans hcc1⟩
        have hgS : Gd S 1000 := ⟨by have := HS.out.2.2.2.1; omega, fun c hc => (HS.out.2.2.2.2 c hc).lits⟩
        have D1 : Hid (∀ wx, Below wr.heap.size wr wx → Calls Tryd.prog 55 #[.int .i64 n, .slice SA S.length sc, .slice A1 u.length c1] wx (RetV wx (.bool (clashB S (negC u))))) := Lib.hid fun wx hx => refRefutes_any SA A1 sc c1 n S u wx (HS.out.1.nx hx) (HU.out.1.nx hx) (hgS.may (by omega) HU.out.2.2.2.lits) (by have := HS.out.2.2.2.1; omega) (by have := HU.out.2.2.2.1; omega) (fun z hz => forced60 HS.out.2.2.2.2 HU.out.2.2.2 hz)
        obtain ⟨cb, hcb⟩ : ∃ cb, clashB S (negC u) = cb := ⟨_, rfl⟩
        rw [hcb] at D1
        have HCB := Lib.hid hcb
        have hU := (Below.refl wr.heap.size wr).drew
        have K0 := HKK.out _ hU
        clear hgS hcb hcc1 hb
        go_wp2_with fail
        go_region_held3 (fun w' => w'.cell? ⟨w.heap.size, 0, none⟩ = some (.int .i64 n) ∧ w'.cell? ⟨(ad.add (j * 2)).block, (ad.add (j * 2)).off + 1, none⟩ = some (.slice A1 u.length c1))
          (first | exact K0 | exact K1)
          (first
            | (go_at_call 55; ((with_reducible refine (D1.out _ hU).mono ?_); rintro e u1 ⟨rfl, hu1⟩; have U1 := bnx hU hu1; have K1 := HKK.out _ U1)))
        have k1 := K1.2
        have HU1B := Lib.hid (bnx HC.out U1)
        have HU1 := Lib.hid (HU.out.1.nx U1)
        have HS1 := Lib.hid (HS.out.1.nx U1)
        clear K0 K1 HKK D1 hU hu1 U1 hcc0
        cases cb
        · have HE := Lib.hid (HQQ.out.symm.trans (add_bad HCB.out))
          have HX := Lib.hid (bnx HB0.out HU1B.out)
          clear k1
          go_wp2
          go_ret2
          exact ⟨by rw [HE.out]; rfl, HX.out⟩
        by_cases hu : u = []
        · subst hu
          have HE := Lib.hid (HQQ.out.symm.trans (add_end HCB.out))
          have HX := Lib.hid (bnx HB0.out HU1B.out)
          simp only [List.length_nil] at k1
          go_wp2
          go_ret2
          exact ⟨by rw [HE.out]; rfl, HX.out⟩
        have HQ2 : Hid (checkQ (setsOf (S ++ [u])) (j + 1) (P.drop (j + 1)) = q) := Lib.hid (by rw [← HQQ.out, add_more HCB.out hu])
        have hul0 := len_ne hu
        have hul : (u.length == 0) = false := beq_eq_false_iff_ne.2 hul0
        have hul' : ((u.length : Int) == 0) = false := beq_eq_false_iff_ne.2 (by have := hul0; omega)
        have HL6 : Hid ((S ++ [u]).length ≤ 20 + (j + 1) ∧ ∀ c ∈ S ++ [u], L60 c) := Lib.hid ⟨by have := HS.out.2.2.2.1; simp; omega, fun c hc => (List.mem_append.1 hc).elim (HS.out.2.2.2.2 c) (fun h => by simp at h; subst h; exact HU.out.2.2.2)⟩
        clear hu hul0
        have HKC : Hid (∀ wx, Below u1.heap.size u1 wx → Below u1.heap.size u1 wx ∧ wx.cell? ⟨(ad.add (j * 2)).block, (ad.add (j * 2)).off + 1, none⟩ = some (.slice A1 u.length c1)) := Lib.hid fun wx hx => ⟨hx, (hx.cell (p := ⟨(ad.add (j * 2)).block, (ad.add (j * 2)).off + 1, none⟩) (by show (ad.add (j * 2)).block < _; exact Nat.lt_of_lt_of_le HAB.out HU1B.out.size)).trans k1⟩
        have hBd := (Below.refl u1.heap.size u1).drew
        have hB_0 := bal hBd (.cells #[] 26)
        have hB_1 := bal hBd (.cells #[.slice A1 u.length c1] 26)
        have hB_01 := bal hB_0 (.cells #[.slice A1 u.length c1] 26)
        have hB_10 := bal hB_1 (.cells #[] 26)
        have Kd := HKC.out _ hBd
        have K_0 := HKC.out _ hB_0
        have K_1 := HKC.out _ hB_1
        have K_01 := HKC.out _ hB_01
        have K_10 := HKC.out _ hB_10
        have hO_0 : OwnK (u1.drew.alloc (.cells #[] 26)) u1.heap.size (.slice (some ⟨u1.heap.size, 0, none⟩) 0 0) [] := ⟨[], World.ownsRow_lit (size := 1) (e := 26) (base := u1.heap.size) u1.drew #[] 0 (Nat.le_refl _) (by simp [maxLen]) (by simp), rfl, by simp, fun i hi => absurd hi (by simp)⟩
        have hO_01 := hO_0.old (bal (Below.refl _ _) (.cells #[.slice A1 u.length c1] 26)) hB_0.size
        have hO_10 : OwnK ((u1.drew.alloc (.cells #[.slice A1 u.length c1] 26)).alloc (.cells #[] 26)) u1.heap.size (.slice (some ⟨u1.heap.size + 1, 0, none⟩) 0 0) [] := by
          have := World.ownsRow_lit (size := 1) (e := 26) (base := u1.heap.size) (u1.drew.alloc (.cells #[.slice A1 u.length c1] 26)) #[] 0 hB_1.size (by simp [maxLen]) (by simp)
          simp at this
          exact ⟨[], this, rfl, by simp, fun i hi => absurd hi (by simp)⟩
        have hc_01 : ((u1.drew.alloc (.cells #[] 26)).alloc (.cells #[.slice A1 u.length c1] 26)).cell? ⟨u1.heap.size + 1, 0, none⟩ = some (.slice A1 u.length c1) := by go_simp
        have hc_10 : ((u1.drew.alloc (.cells #[.slice A1 u.length c1] 26)).alloc (.cells #[] 26)).cell? ⟨u1.heap.size, 0, none⟩ = some (.slice A1 u.length c1) := by go_simp
        have hlt_10 : u1.heap.size < ((u1.drew.alloc (.cells #[.slice A1 u.length c1] 26)).alloc (.cells #[] 26)).heap.size := by simp; omega
        have hlt_01 : u1.heap.size + 1 < ((u1.drew.alloc (.cells #[] 26)).alloc (.cells #[.slice A1 u.length c1] 26)).heap.size := by simp
        have hne_10 : some u1.heap.size ≠ (Value.slice (some ⟨u1.heap.size + 1, 0, none⟩) 0 0).ownBlock := by simp [Value.ownBlock]
        have hne_01 : some (u1.heap.size + 1) ≠ (Value.slice (some ⟨u1.heap.size, 0, none⟩) 0 0).ownBlock := by simp [Value.ownBlock]
        cases SA with
        | none =>
          have hS0 : S = [] := by
            cases S with
            | nil => rfl
            | cons x l => obtain ⟨ad, _, _, e, _⟩ := HS.out.1 0 (by simp); cases e
          subst hS0
          have hsc0 : sc = 0 := HS.out.2.2.1 rfl
          subst hsc0
          go_wp2_with fail
          go_region_held3 (fun w' => Below u1.heap.size u1 w' ∧ w'.cell? ⟨(ad.add (j * 2)).block, (ad.add (j * 2)).off + 1, none⟩ = some (.slice A1 u.length c1))
            (first | exact Kd | exact K_0 | exact K_1 | exact K_01 | exact K_10 | exact Kc | exact Kx | exact K5)
            (first
            | (refine stepKn (z := u1) rfl (.tmp 58) (.tmp 59) rfl _ [] rfl hO_10 rfl ?_; have hO4 := hO_10; have hB4 := hB_10; have hc4 := hc_10)
            | (refine stepKn (z := u1) rfl (.tmp 58) (.tmp 59) rfl _ [] rfl hO_01 rfl ?_; have hO4 := hO_01; have hB4 := hB_01; have hc4 := hc_01)
            | (refine stepKn (z := u1) rfl (.tmp 58) (.tmp 59) rfl _ [] rfl hO_0 rfl ?_; have hO4x := hO_01; have hBx := hB_01; have hcx := hc_01)
            | (refine stepK1 (z := u1) rfl (.tmp 60) (.tmp 66) rfl _ [] rfl hO4 _ A1 c1 u rfl hc4 HU1.out HU.out.2.1 HU.out.2.2.1 hB4 (by have := HS.out.2.2.2.1; simp; try omega) ?_; intro v5 w5 hO5 hB5; have K5 := HKC.out _ hB5)
            | (refine stepK1 (z := u1) rfl (.tmp 60) (.tmp 66) rfl _ [] rfl hO4x _ A1 c1 u rfl hcx HU1.out HU.out.2.1 HU.out.2.2.1 hBx (by have := HS.out.2.2.2.1; simp; try omega) ?_; intro v5 w5 hO5 hB5; have K5 := HKC.out _ hB5))
          all_goals
            have HO := Lib.hid (show OwnK w5 u1.heap.size v5 ([] ++ [u]) by simpa using hO5)
            have HB5 := Lib.hid hB5
            clear hO_0 hO_01 hO_10 hc_01 hc_10 Kd K_0 K_1 K_01 K_10 hBd hB_0 hB_1 hB_01 hB_10 HKC k1
            go_wp2
            go_roundg g
            case rel => exact ⟨j + 1, _, by omega, by go_num, Rw.own HO.out HB5.out.size HL6.out.1 HL6.out.2, bnx HU1B.out HB5.out, HQ2⟩
            case measure => omega
        | some sad =>
          have HSR := Lib.hid HS1.out
          go_wp2_with fail
          go_region_held3 (fun w' => Below u1.heap.size u1 w' ∧ w'.cell? ⟨(ad.add (j * 2)).block, (ad.add (j * 2)).off + 1, none⟩ = some (.slice A1 u.length c1))
            (first | exact Kd | exact K_0 | exact K_1 | exact K_01 | exact K_10 | exact Kc | exact Kx | exact K5)
            (first
            | (refine stepKg (z := u1) rfl (.tmp 58) (.tmp 59) rfl _ [] rfl hO_10 sad sc S rfl HSR.out hB_10 (by simp) (by have := HS.out.2.2.2.1; omega) ?_; intro v4 w4 hO4 hB4 hg4; have hc4 := (far_cell hg4 ⟨u1.heap.size, 0, none⟩ hlt_10 hne_10).trans hc_10; have Kc := HKC.out _ hB4)
            | (refine stepKg (z := u1) rfl (.tmp 58) (.tmp 59) rfl _ [] rfl hO_01 sad sc S rfl HSR.out hB_01 (by simp) (by have := HS.out.2.2.2.1; omega) ?_; intro v4 w4 hO4 hB4 hg4; have hc4 := (far_cell hg4 ⟨u1.heap.size + 1, 0, none⟩ hlt_01 hne_01).trans hc_01; have Kc := HKC.out _ hB4)
            | (refine stepKg (z := u1) rfl (.tmp 58) (.tmp 59) rfl _ [] rfl hO_0 sad sc S rfl HSR.out hB_0 (by simp) (by have := HS.out.2.2.2.1; omega) ?_; intro v4 w4 hO4 hB4 hg4; have hO4x := hO4.old (bal (Below.refl w4.heap.size w4) (.cells #[.slice A1 u.length c1] 26)) hB4.size; have hBx := bal hB4 (.cells #[.slice A1 u.length c1] 26); have hcx := box1 w4 (.slice A1 u.length c1); have Kx := HKC.out _ hBx; have Kc := HKC.out _ hB4)
            | (refine stepK1 (z := u1) rfl (.tmp 60) (.tmp 66) rfl _ ([] ++ S) rfl hO4 _ A1 c1 u rfl hc4 HU1.out HU.out.2.1 HU.out.2.2.1 hB4 (by have := HS.out.2.2.2.1; simp; try omega) ?_; intro v5 w5 hO5 hB5; have K5 := HKC.out _ hB5)
            | (refine stepK1 (z := u1) rfl (.tmp 60) (.tmp 66) rfl _ ([] ++ S) rfl hO4x _ A1 c1 u rfl hcx HU1.out HU.out.2.1 HU.out.2.2.1 hBx (by have := HS.out.2.2.2.1; simp; try omega) ?_; intro v5 w5 hO5 hB5; have K5 := HKC.out _ hB5))
          all_goals
            have HO := Lib.hid (show OwnK w5 u1.heap.size v5 (S ++ [u]) by simpa using hO5)
            have HB5 := Lib.hid hB5
            clear hO_0 hO_01 hO_10 hc_01 hc_10 Kd K_0 K_1 K_01 K_10 hBd hB_0 hB_1 hB_01 hB_10 HKC k1
            go_wp2
            go_roundg g
            case rel => exact ⟨j + 1, _, by omega, by go_num, Rw.own HO.out HB5.out.size HL6.out.1 HL6.out.2, bnx HU1B.out HB5.out, HQ2⟩
            case measure => omega
      · have C := without_any SA A1 sc c1 S u wr HS.out.1 HU.out.1 HS.out.2.1 ⟨by have := HS.out.2.2.2.1; omega, fun c hc => (HS.out.2.2.2.2 c hc).lits⟩ HU.out.2.2.2.lits
        clear hb
        go_wp2_with fail
        refine C.mono ?_; rintro e w2 (⟨i, v, hi, hgi, hfi, rfl, ho, hb⟩ | ⟨hno, rfl, hb⟩)
        · have H2 := Lib.hid (bnx HC.out hb)
          have hl2 : (S.take i ++ S.drop (i + 1)).length ≤ 20 + (j + 1) := by have := HS.out.2.2.2.1; simp; omega
          have HN := Lib.hid (Rw.own ho hb.size hl2 (cut_small HS.out.2.2.2.2 i))
          have HQ2 : Hid (checkQ (setsOf (S.take i ++ S.drop (i + 1))) (j + 1) (P.drop (j + 1)) = q) := Lib.hid (by rw [← HQQ.out, del_yes hi hgi hfi])
          clear C hb ho hi hgi hfi hl2 hcc0 hcc1
          go_wp2
          go_roundg g
          case rel => exact ⟨j + 1, _, by omega, by go_num, HN.out, H2.out, HQ2⟩
          case measure => omega
        · have H2 := Lib.hid (bnx HB0.out (bnx HC.out hb))
          have HE := Lib.hid (HQQ.out.symm.trans (del_no hno))
          clear C hb hno hcc0 hcc1
          go_wp2
          go_ret2
          exact ⟨by rw [HE.out]; rfl, H2.out⟩
    · obtain rfl : j = P.length := by omega
      have HE := Lib.hid (show q = (P.length, 6) by rw [← HQ.out, List.drop_length]; rfl)
      clear hrs hsc hsn hsl hs6 hb
      go_wp2
      go_ret2
      exact ⟨by rw [HE.out]; rfl, bnx HB0.out HC.out⟩
end Go.Proofs.YtahedhpffjgimaaDoor
/- DrupChecks, walked. -/
namespace Go.Proofs.YtahedhpffjgimaaDoor
open Go.RowKit
open Go.Lib Go.Sort
theorem may_60 {n : Int} {L : List (List Int)} {P : List Stp} (h : mayD n L P = true) : (∀ c ∈ L, L60 c) ∧ ∀ s ∈ P, L60 s.2 := by
  obtain ⟨h0, h1, h2, h3, h4, h5, _, _⟩ := mayD_parts h
  refine ⟨fun c hc => ⟨(h4 c hc).1, fun x hx => ?_⟩, fun s hs => ⟨(h5 s hs).1, fun x hx => ?_⟩⟩
  · have := (h4 c hc).2 x hx
    omega
  · have := (h5 s hs).2 x hx
    omega
set_option maxHeartbeats 4000000 in
set_option maxRecDepth 100000 in
theorem checks_any (LA PA : Option Addr) (k kp : Nat) (n : Int) (L : List (List Int)) (P : List Stp) (w : World) (hL : RCk w w.heap.size LA L) (hP : RS w w.heap.size PA P) (hl : L.length ≤ maxLen) (hp : P.length ≤ maxLen) (hk : L.length ≤ k) (hz : LA = none → k = 0) (hW : Pow w.heap.size w) :
    Calls Tryd.prog 5 #[.agg #[.int .i64 n, .slice LA L.length k], .slice PA P.length kp] w (RetV w (.bool true)) := by
  have hst := Start.mk' w LA PA k kp n L P hL hP hl hp hW
  have F0 := FW.first w LA k n L
  have C1 := hst.c1 _ F0.bel
  have HS := Lib.hid hst
  have HF := Lib.hid F0
  have HX := Lib.hid (And.intro hL (And.intro hP (And.intro hk hz)))
  clear hst F0 hL hP hk hz hW hl hp
  cases hm : mayD n L P
  · go_enter Tryd.func5, Tryd.ntmps5
    go_wp2_with fail
    refine C1.mono ?_; rintro e w1 ⟨rfl, hb⟩
    have F1 := Lib.hid (HF.out.nx hb)
    have p0 := F1.out.f0
    have p1 := F1.out.f1
    have c2 := HS.out.c2 _ F1.out.bel
    rw [hm] at c2
    clear C1 hb hm
    go_wp2_with fail
    refine c2.mono ?_; rintro e w2 ⟨rfl, hb⟩
    have HB := Lib.hid (F1.out.nx hb).bel
    clear c2 hb
    go_wp2
    go_ret
    exact ⟨rfl, HB.out⟩
  · obtain ⟨g1, g2, g3⟩ := may_gd hm
    obtain ⟨l1, l2, _, _⟩ := may_len hm
    obtain ⟨x1, x2⟩ := may_60 hm
    obtain ⟨I, hI⟩ : ∃ I, (checkQ (setsOf L) 0 P).1 = I := ⟨_, rfl⟩
    obtain ⟨E, hE⟩ : ∃ E, (checkQ (setsOf L) 0 P).2 = E := ⟨_, rfl⟩
    have hbd := (checkQ_bd P (setsOf L) 0).2.2
    rw [hE] at hbd
    have C2 : Hid (∀ wx, Below w.heap.size w wx → Calls Tryd.prog 25 #[.agg #[.int .i64 n, .slice LA L.length k], .slice PA P.length kp] wx (RetV wx (.bool true))) := Lib.hid fun wx hx => by have := HS.out.c2 wx hx; rwa [hm] at this
    have C3 : Hid (∀ wx, Below w.heap.size w wx → Calls Tryd.prog 26 #[.agg #[.int .i64 n, .slice LA L.length k], .slice PA P.length kp] wx (RetV wx (.tuple #[.int .i64 (I : Int), .int .i64 E]))) := Lib.hid fun wx hx => by
      have := Check_any LA PA k kp n L P wx (HX.out.1.nx hx) (HX.out.2.1.nx hx) g1 g2 g3
      unfold RetII at this
      rw [hI, hE] at this
      exact this
    have C4 : Hid (∀ wx, Below w.heap.size w wx → Calls Tryd.prog 27 #[.agg #[.int .i64 n, .slice LA L.length k], .slice PA P.length kp] wx (RetV wx (.tuple #[.int .i64 (I : Int), .int .i64 E]))) := Lib.hid fun wx hx => by
      have := refCheck_any LA PA k kp n L P wx (HX.out.1.nx hx) HX.out.2.2.1 HX.out.2.2.2 (HX.out.2.1.nx hx) l1 l2 x1 x2
      unfold RetII at this
      rw [hI, hE] at this
      exact this
    have HE : Hid (E = 0 ∨ E = 4 ∨ E = 6) := Lib.hid hbd
    clear hm g1 g2 g3 x1 x2 hI hE hbd HS
    go_enter Tryd.func5, Tryd.ntmps5
    go_wp2_with fail
    refine C1.mono ?_; rintro e w1 ⟨rfl, hb⟩
    have F1 := Lib.hid (HF.out.nx hb)
    have p0 := F1.out.f0
    have p1 := F1.out.f1
    have c2 := C2.out _ F1.out.bel
    clear C1 hb
    go_wp2_with fail
    refine c2.mono ?_; rintro e w2 ⟨rfl, hb⟩
    have F2 := Lib.hid (F1.out.nx hb)
    have q0 := F2.out.f0
    have q1 := F2.out.f1
    have c3 := C3.out _ F2.out.bel
    clear c2 hb p0 p1
    go_wp2_with fail
    refine c3.mono ?_; rintro e w3 ⟨rfl, hb⟩
    have F3 := Lib.hid (F2.out.nx hb)
    have p0 := F3.out.f0
    have p1 := F3.out.f1
    have c4 := C4.out _ F3.out.bel
    clear c3 hb q0 q1
    go_wp2_with fail
    refine c4.mono ?_; rintro e w4 ⟨rfl, hb⟩
    have F4 := Lib.hid (F3.out.nx hb).bel
    clear c4 hb p0 p1
    rcases HE.out with rfl | rfl | rfl
    all_goals
      clear HE
      go_wp2
      go_ret
      exact ⟨rfl, F4.out⟩
end Go.Proofs.YtahedhpffjgimaaDoor
