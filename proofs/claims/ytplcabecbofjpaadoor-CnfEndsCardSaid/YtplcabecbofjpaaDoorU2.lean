/-
  CnfTurned's way through.
-/
import Derived.Test.YtplcabecbofjpaaDoorProg
import Derived.WalkKit
import Derived.WalkSpells
import Derived.WalkLawsBesides
import Derived.Lib.Hide
import Derived.BigQuiet
import Derived.Deep.QuietTactic
import Derived.Deep.RegionWith
import Derived.Deep.RegionHeld3
import Derived.Test.YtplcabecbofjpaaDoorU1
import Derived.Deep.DeepCutAuto
set_option linter.unusedVariables false
namespace Go.Proofs.YtplcabecbofjpaaDoor
open Go.RowKit
theorem negC_take (u : List Int) (k : Nat) (h : k < u.length) : negC (u.take (k + 1)) = negC (u.take k) ++ [-(u.getD k 0)] := by rw [takeI u k h]; simp [negC]
theorem negF_take (L : List (List Int)) (k : Nat) (h : k < L.length) : negF (L.take (k + 1)) = negF (L.take k) ++ [negC (L.getD k [])] := by rw [takeC L k h]; simp [negF]
theorem takeB (l : List Bool) (i : Nat) (h : i < l.length) : l.take (i + 1) = l.take i ++ [l.getD i false] := by
  rw [List.take_succ_eq_append_getElem h]; simp [List.getD, h]
theorem notB_take (m : List Bool) (k : Nat) (h : k < m.length) : (m.take (k + 1)).map (!·) = (m.take k).map (!·) ++ [!m.getD k false] := by rw [takeB m k h]; simp
set_option maxHeartbeats 8000000 in
set_option maxRecDepth 100000 in
theorem turned_in (A A' : Option Addr) (c c' : Nat) (N : Int) (L : List (List Int)) (m : List Bool) (w : World) (h : RC w w.heap.size A L) (h' : RB w w.heap.size A' m) (hP : Pow w.heap.size w)
    (hs : smallF 40 L = true) (hm : m.length ≤ 100) (hr : rightF N L = true) :
    Calls Tryd.prog 9 #[.agg #[.int .i64 N, .slice A L.length c], .slice A' m.length c'] w (RetV w (.bool true)) := by
  obtain ⟨sL, sC⟩ := small_parts hs
  obtain ⟨N0, N1, _, hx⟩ := right_parts hr
  have hn : L.length ≤ maxLen := by unfold maxLen; omega
  have hmm : m.length ≤ maxLen := by unfold maxLen; omega
  have d1 : decide ((100 : Int) < m.length) = false := decide_eq_false (by omega)
  have hb := bal (Below.refl w.heap.size w) (.cells #[.int .i64 N, .slice A L.length c] 24)
  obtain ⟨q0, q1⟩ := box_cells w (.int .i64 N) (.slice A L.length c) 24
  have qs : w.heap.size < (w.alloc (.cells #[.int .i64 N, .slice A L.length c] 24)).heap.size := by simp
  have HB := Lib.hid hb
  have HR := Lib.hid (h.nx hb)
  have HR' := Lib.hid (h'.nx hb)
  have HP := Lib.hid (hP.nx hb)
  have HN := Lib.hid hn
  have HMM := Lib.hid hmm
  have HX := Lib.hid (fun c hc => And.intro (sC c hc) (hx c hc).2)
  have Hneg := Lib.hid (right_neg hr)
  have Hho := Lib.hid (hoT_neg m L)
  generalize hw0 : w.alloc (.cells #[.int .i64 N, .slice A L.length c] 24) = w0 at *
  have HW0 := Lib.hid hw0
  have HQ0 := Lib.hid q0
  have HQ1 := Lib.hid q1
  have C1 := shown_any w0 HP.out
  have HS : Hid (∀ w1, Below w0.heap.size w0 w1 → Calls Tryd.prog 16 #[.agg #[.int .i64 N, .slice A L.length c], .int .i64 40] w1 (RetV w1 (.bool true))) := by intro w1 hb; rw [← hs]; exact Small_any A c N 40 L w1 (HR.out.nx hb) HN.out
  have HRR : Hid (∀ w1, Below w0.heap.size w0 w1 → Calls Tryd.prog 22 #[.agg #[.int .i64 N, .slice A L.length c]] w1 (RetV w1 (.bool true))) := by intro w1 hb; rw [← hr]; exact refRight_any A c N L w1 (HR.out.nx hb) HN.out
  clear hw0 hb h h' hP hn hmm hs hr sC hx q0 q1
  go_enter Tryd.func9, Tryd.ntmps9
  go_wp2_with fail
  rw [HW0.out]
  refine C1.mono ?_; rintro e w1 ⟨rfl, hb1⟩
  have p0 := (hb1.cell (p := ⟨w.heap.size, 0, none⟩) qs).trans HQ0.out
  have p1 := (hb1.cell (p := ⟨w.heap.size, 1, none⟩) qs).trans HQ1.out
  have ps : w.heap.size < w1.heap.size := by have := hb1.size; omega
  have C2 := HS.out w1 hb1
  have HB1 := Lib.hid hb1
  clear C1 hb1 HS
  go_wp2_with fail
  refine C2.mono ?_; rintro e w2 ⟨rfl, hb2⟩
  have hE2 := bnx HB1.out hb2
  clear C2 hb2 p0 p1 ps HB1
  have p0 := (hE2.cell (p := ⟨w.heap.size, 0, none⟩) qs).trans HQ0.out
  have p1 := (hE2.cell (p := ⟨w.heap.size, 1, none⟩) qs).trans HQ1.out
  have ps : w.heap.size < w2.heap.size := by have := hE2.size; omega
  have C3 := HRR.out w2 hE2
  go_wp2_with fail
  refine C3.mono ?_; rintro e w3 ⟨rfl, hb3⟩
  have hE3 := bnx hE2 hb3
  clear C3 hb3 p0 p1 ps hE2 HRR
  have p0 := (hE3.cell (p := ⟨w.heap.size, 0, none⟩) qs).trans HQ0.out
  have p1 := (hE3.cell (p := ⟨w.heap.size, 1, none⟩) qs).trans HQ1.out
  have ps : w.heap.size < w3.heap.size := by have := hE3.size; omega
  have F0 := Lib.hid (GW.first w3 N)
  have HE3 := Lib.hid hE3
  clear hE3
  go_wp2
  go_loopw [7] (fun i wr => ∃ (j : Nat) (v : Value), j ≤ L.length ∧ i = .int .i64 j ∧ GW w3 wr N v (negF (L.take j))) (fun i _ => L.length - (intOf i).toNat)
  case atStart => exact ⟨0, _, Nat.zero_le _, rfl, F0.out⟩
  case round =>
    obtain ⟨j, v, hj, rfl, hG⟩ := hrel
    clear F0 p0 p1
    have hE := bnx HE3.out hG.bel
    have p0 := (hE.cell (p := ⟨w.heap.size, 0, none⟩) qs).trans HQ0.out
    have p1 := (hE.cell (p := ⟨w.heap.size, 1, none⟩) qs).trans HQ1.out
    have ps1 : w.heap.size < wr.heap.size := by have := hE.size; omega
    by_cases hlt : j < L.length
    · obtain ⟨a1, A1, k1, rfl, hab, hc1, r1, m1⟩ := (HR.out.nx hE) j hlt
      obtain ⟨lu, lx⟩ := HX.out (L.getD j []) (by simp [List.getD_eq_getElem?_getD, hlt])
      have HF := Lib.hid (negF_take L j hlt)
      generalize L.getD j [] = u at *
      have HG := Lib.hid hG
      have HRI := Lib.hid r1
      have HLX := Lib.hid lx
      have hab' : (a1.add j).block < wr.heap.size := by rw [block_add]; exact hab
      have HC1 := Lib.hid hc1
      have HP0 := Lib.hid p1
      clear hG r1 lx hE
      generalize wr = z at *
      go_wp2
      clear p1 hc1
      go_loopw [8, 9] (fun vc i wx => ∃ (k : Nat), k ≤ u.length ∧ i = .int .i64 k ∧ OwnI wx z.heap.size vc (negC (u.take k)) ∧ Below z.heap.size z wx) (fun _ i _ => u.length - (intOf i).toNat)
      case atStart => exact ⟨0, Nat.zero_le _, rfl, OwnI.nil _ _, Below.refl _ _⟩
      case round =>
        obtain ⟨k, hk, rfl, hown, hBz⟩ := hrel
        have p1 := (hBz.cell (p := ⟨w.heap.size, 1, none⟩) ps1).trans HP0.out
        have hc1 := (hBz.cell (p := a1.add j) hab').trans HC1.out
        have ps2 : w.heap.size < wr.heap.size := by have := hBz.size; omega
        have hjl : (j : Int) < L.length := by omega
        by_cases hkl : k < u.length
        · obtain ⟨a2, rfl, hb2, hc2⟩ := (HRI.out.below hBz) k hkl
          obtain ⟨x0, x1, x2⟩ := HLX.out (u.getD k 0) (by simp [List.getD_eq_getElem?_getD, hkl])
          have HNT := Lib.hid (negC_take u k hkl)
          have hol : (negC (u.take k)).length ≤ 100000 := by simp [negC]; omega
          generalize u.getD k 0 = x at *
          generalize negC (u.take k) = o at *
          have hkl' : (k : Int) < u.length := by omega
          obtain ⟨Ao, co, rfl, _⟩ := hown.val
          clear x0
          go_wp2_with (first
            | (at_builtin; refine wpI1 rfl (.tmp 47) (.tmp 57) rfl _ o rfl hown (-x) rfl hBz hol ?_))
          intro v' w4 ho4 hb4
          have HO4 := Lib.hid ho4
          have HB4 := Lib.hid hb4
          clear ho4 hb4 hown hBz p1 hc1 hc2
          go_wp2
          go_roundw
          case rel => exact ⟨k + 1, by omega, by go_num, by rw [HNT.out]; exact HO4.out, HB4.out⟩
          case measure => simp [intOf]; omega
        · obtain rfl : k = u.length := by omega
          rw [List.take_length] at hown
          have hG1 := HG.out.nx hBz
          have hsz := HG.out.sz
          have hs1 := hG1.sz
          have hoc1 := hown.base hsz
          have hownC := hG1.own
          have f1 := hG1.f1.1
          have hLb : (negF (L.take j)).length ≤ 3000000000 := by simp [negF]; omega
          obtain ⟨Ac, cc, rfl, _⟩ := hown.val
          obtain ⟨Av, cv, rfl, _⟩ := hownC.val
          have HG1 := Lib.hid hG1
          have x4 : w3.heap.size < wr.heap.size := by omega
          generalize negF (L.take j) = LL at *
          clear hown hG1 hBz
          go_wp2_with (first
            | (at_builtin; refine wpC1 rfl (.tmp 60) (.tmp 62) rfl (w3.heap.size + 1) _ LL rfl hownC _ (negC u) hoc1 rfl hs1 hLb ?_))
          intro v' w5 ho5 hb5
          have hG5 := HG1.out.low hb5 ho5
          have g1 := (hb5.cell (p := ⟨w3.heap.size, 1, none⟩) (by simp)).trans HG1.out.f1.1
          have g2 := (hb5.frozen (p := ⟨w3.heap.size, 1, none⟩) (by simp)).trans HG1.out.f1.2
          have x5 : w3.heap.size < w5.heap.size := by have := hb5.size; omega
          obtain ⟨A5, c5, rfl, _⟩ := ho5.val
          rw [show (LL ++ [negC u]).length = LL.length + 1 by simp] at hG5 ⊢
          have HG5 := Lib.hid hG5
          clear hG5 ho5 hb5 hoc1 hownC f1 HG1 p1 hc1
          go_wp2
          go_roundw
          case rel => exact ⟨j + 1, _, by omega, by go_num, by rw [HF.out]; exact HG5.out⟩
          case measure => simp [intOf]; omega
    · obtain rfl : j = L.length := by omega
      rw [List.take_length] at hG
      have HG := Lib.hid hG
      have HEz := Lib.hid hE
      clear hG hlt hj hE
      generalize wr = z at *
      go_wp2
      clear p0 p1
      go_loopw [10, 11] (fun vb i wx => ∃ (k : Nat), k ≤ m.length ∧ i = .int .i64 k ∧ OwnB wx z.heap.size vb ((m.take k).map (!·)) ∧ Below z.heap.size z wx) (fun _ i _ => m.length - (intOf i).toNat)
      case atStart => exact ⟨0, Nat.zero_le _, rfl, OwnB.nil _ _, Below.refl _ _⟩
      case round =>
        obtain ⟨k, hk, rfl, hown, hBz⟩ := hrel
        by_cases hkl : k < m.length
        · obtain ⟨a2, rfl, hb2, hc2⟩ := (HR'.out.nx (bnx HEz.out hBz)) k hkl
          have HNT := Lib.hid (notB_take m k hkl)
          have hol : ((m.take k).map (!·)).length ≤ 3000000000 := by simp; omega
          generalize m.getD k false = x at *
          generalize (m.take k).map (!·) = o at *
          have hkl' : (k : Int) < m.length := by omega
          obtain ⟨Ao, co, rfl, _⟩ := hown.val
          go_wp2_with (first
            | (at_builtin; refine wpB1 rfl (.tmp 71) (.tmp 77) rfl _ o rfl hown (!x) rfl hBz hol ?_))
          intro v' w4 ho4 hb4
          have HO4 := Lib.hid ho4
          have HB4 := Lib.hid hb4
          clear ho4 hb4 hown hBz hc2
          go_wp2
          go_roundw
          case rel => exact ⟨k + 1, by omega, by go_num, by rw [HNT.out]; exact HO4.out, HB4.out⟩
          case measure => simp [intOf]; omega
        · obtain rfl : k = m.length := by omega
          rw [List.take_length] at hown
          obtain ⟨An, cn, rfl, rn, _⟩ := hown.val
          have hG1 := HG.out.nx hBz
          have hE := bnx HEz.out hBz
          obtain ⟨Av, cv, rfl, rC, _⟩ := hG1.own.val
          have hln : (negF L).length = L.length := by simp [negF]
          have hlm : (m.map (!·)).length = m.length := by simp
          have hU := (Below.refl wr.heap.size wr).drew
          have HH1 : Hid (∀ wx, Below wr.heap.size wr wx → Calls Tryd.prog 32 #[.agg #[.int .i64 N, .slice A L.length c], .slice A' m.length c'] wx (RetV wx (.bool (hoT L m)))) := fun wx hb => Holds_any A A' c c' N L m wx (HR.out.nx (bnx hE hb)) (HR'.out.nx (bnx hE hb)) HN.out HMM.out
          have HH2 : Hid (∀ wx, Below wr.heap.size wr wx → Calls Tryd.prog 32 #[.agg #[.int .i64 N, .slice Av L.length cv], .slice An m.length cn] wx (RetV wx (.bool (hoT L m)))) := by
            intro wx hb
            have := Holds_any Av An cv cn N (negF L) (m.map (!·)) wx (rC.nx hb) (rn.nx hb) (by rw [hln]; exact HN.out) (by rw [hlm]; exact HMM.out)
            rw [Hho.out, hln, hlm] at this
            exact this
          have HH3 : Hid (∀ wx, Below wr.heap.size wr wx → Calls Tryd.prog 21 #[.agg #[.int .i64 N, .slice Av L.length cv]] wx (RetV wx (.bool true))) := by
            intro wx hb
            have := Right_any Av cv N (negF L) wx (rC.nx hb) (by rw [hln]; exact HN.out)
            rw [Hneg.out, hln] at this
            exact this
          have p0 := (hE.cell (p := ⟨w.heap.size, 0, none⟩) qs).trans HQ0.out
          have p1 := (hE.cell (p := ⟨w.heap.size, 1, none⟩) qs).trans HQ1.out
          have g0 := hG1.f0.1
          have g1 := hG1.f1.1
          rw [hln] at g1
          rw [hlm]
          have ps1 : w.heap.size < wr.heap.size := by have := hE.size; omega
          have ps3 : w3.heap.size < wr.heap.size := by have := hG1.sz; omega
          have HBw := Lib.hid (bnx HB.out hE)
          have K0 : wr.drew.cell? ⟨w.heap.size, 0, none⟩ = some (.int .i64 N) ∧ wr.drew.cell? ⟨w.heap.size, 1, none⟩ = some (.slice A L.length c) ∧ wr.drew.cell? ⟨w3.heap.size, 0, none⟩ = some (.int .i64 N) ∧ wr.drew.cell? ⟨w3.heap.size, 1, none⟩ = some (.slice Av L.length cv) := ⟨p0, p1, g0, g1⟩
          have HK : Hid (∀ wx, Below wr.heap.size wr wx → wx.cell? ⟨w.heap.size, 0, none⟩ = some (.int .i64 N) ∧ wx.cell? ⟨w.heap.size, 1, none⟩ = some (.slice A L.length c) ∧ wx.cell? ⟨w3.heap.size, 0, none⟩ = some (.int .i64 N) ∧ wx.cell? ⟨w3.heap.size, 1, none⟩ = some (.slice Av L.length cv)) := fun wx hb => ⟨(hb.cell (p := ⟨w.heap.size, 0, none⟩) ps1).trans p0, (hb.cell (p := ⟨w.heap.size, 1, none⟩) ps1).trans p1, (hb.cell (p := ⟨w3.heap.size, 0, none⟩) ps3).trans g0, (hb.cell (p := ⟨w3.heap.size, 1, none⟩) ps3).trans g1⟩
          clear hown hG1 hBz hE rn rC hln hlm Hho Hneg HG p0 p1 g0 g1
          generalize hoT L m = bb at *
          cases bb
          all_goals
            go_wp2_with fail
            go_cut [4] (fun s4 wx => s4 = .bool true ∧ Below wr.heap.size wr wx)
            case first =>
              go_region_held3 (fun w' => w'.cell? ⟨w.heap.size, 0, none⟩ = some (.int .i64 N) ∧ w'.cell? ⟨w.heap.size, 1, none⟩ = some (.slice A L.length c) ∧ w'.cell? ⟨w3.heap.size, 0, none⟩ = some (.int .i64 N) ∧ w'.cell? ⟨w3.heap.size, 1, none⟩ = some (.slice Av L.length cv))
                (first | exact K0 | exact K1 | exact K2 | exact K3)
                (first
                  | (go_at_call 32; ((with_reducible refine (HH1.out _ hU).mono ?_); rintro e u1 ⟨rfl, hu1⟩; have U1 := bnx hU hu1; have K1 := HK.out _ U1))
                  | (go_at_call 32; ((with_reducible refine (HH2.out _ U1).mono ?_); rintro e u2 ⟨rfl, hu2⟩; have U2 := bnx U1 hu2; have K2 := HK.out _ U2))
                  | (go_at_call 21; ((with_reducible refine (HH3.out _ U2).mono ?_); rintro e u3 ⟨rfl, hu3⟩; have U3 := bnx U2 hu3; have K3 := HK.out _ U3)))
              all_goals (go_wp2_with fail; go_meet; exact ⟨by first | rfl | simp, U3⟩)
            case rest =>
              obtain ⟨rfl, hV⟩ := hcut
              have hBB := bnx HBw.out hV
              clear K0 HK hV
              go_wp2
              go_ret
              exact ⟨rfl, hBB⟩
end Go.Proofs.YtplcabecbofjpaaDoor
