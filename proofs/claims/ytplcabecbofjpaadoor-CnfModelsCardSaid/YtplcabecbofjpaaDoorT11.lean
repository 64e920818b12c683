/-
  The reference's ParseModel.
-/
import Derived.Test.YtplcabecbofjpaaDoorProg
import Derived.WalkKit
import Derived.WalkSpells
import Derived.WalkLawsBesides
import Derived.Lib.Hide
import Derived.BigQuiet
import Derived.Deep.QuietTactic
import Derived.Deep.RegionWith
import Derived.Deep.RegionHeld3
import Derived.Test.YtplcabecbofjpaaDoorT10
set_option linter.unusedVariables false
namespace Go.Proofs.YtplcabecbofjpaaDoor
open Go.RowKit
theorem size_of_app {F : ByteArray} (h : F.size ≤ 7) : (F ++ ⟨#[32]⟩ : ByteArray).size ≤ 8 := by
  have : (⟨#[32]⟩ : ByteArray).size = 1 := rfl
  rw [ByteArray.size_append]; omega
/-- The same, what is appended lying in a block of a number given. -/
theorem wpB3 {w : World} {ops : Array Oper} {rest : List Oper} {o : Oper} {a : Act} {Q : Exit → Act → World → Prop} (hgd : o.guard = none) (s x : Operand)
    (ho : o.op = .call { callee := .builtin .append, args := #[s, x], argTypes := #[40, 40] })
    (base : Nat) (v : Value) (l : List Bool) (hs : a.eval s = v) (hown : OwnB w base v l) (y : Bool) (H : Nat) (hH : w.heap.size = H) (hx : a.eval x = .slice (some ⟨H, 0, none⟩) 1 1) (hb : base ≤ w.heap.size)
    (hsz : l.length ≤ 3000000000)
    (h : ∀ v' w', OwnB w' base v' (l ++ [y]) → Below base w w' → wpList Tryd.prog ops Q rest (a.put o.dst v') w') : wpList Tryd.prog ops Q (o :: rest) a (w.alloc (.cells #[.bool y] 4)) :=
  wpB2 hgd s x ho base v l hs hown y (by rw [hx, hH]) hb hsz h
theorem wrap_fit {x y : Int} (h0 : x = y) (h1 : 0 ≤ x ∧ x ≤ 1000000) : IntKind.i64.wrap x = y := by
  subst h0
  rw [IntKind.wrap_i64]
  omega
set_option maxHeartbeats 8000000 in
set_option maxRecDepth 100000 in
theorem refParseModel_any (A : Option Addr) (c n : Nat) (l : List UInt8) (w : World) (h : Rd w w.heap.size A l) (hl : l.length ≤ 2000) (hN : n ≤ 1000) :
    Calls Tryd.prog 26 #[.slice A l.length c, .int .i64 n] w (RetM w (parseM l n).1 (parseM l n).2.1 (parseM l n).2.2) := by
  obtain ⟨R, hR⟩ : ∃ R, parseM l n = R := ⟨_, rfl⟩
  rw [hR]
  have hlm : l.length ≤ maxLen := by unfold maxLen; omega
  have C1 : Calls Tryd.prog 56 #[.agg #[.slice A l.length c, .int .i64 0, .int .i64 0], .string ⟨#[118, 32]⟩] w _ := Word_ok A c 0 l ⟨#[118, 32]⟩ w h (by omega) hlm (by decide)
  obtain ⟨k0, bad0, e1, e2, hk0, hI⟩ : ∃ (k0 : Nat) (bad0 : Int), behS l 0 ⟨#[118, 32]⟩ = k0 ∧ behE l 0 ⟨#[118, 32]⟩ = bad0 ∧ k0 ≤ l.length ∧ ((bad0 = 0 ∧ gM l k0 (n - 0) (0 + 1) [] = R) ∨ (bad0 = 2 ∧ R = ([], k0, 2))) := by
    refine ⟨_, _, rfl, rfl, behS_le (by omega), ?_⟩
    rw [gM_first] at hR
    have hB : isB l 0 ⟨#[118, 32]⟩ = bS l [118, 32] := isB_bS l 0 ⟨#[118, 32]⟩
    cases hb : bS l [118, 32]
    · right
      rw [hb, if_pos rfl] at hR
      exact ⟨by simp [behE, hB, hb], by rw [← hR]; simp [behS, hB, hb]⟩
    · left
      rw [hb, if_neg (by simp)] at hR
      refine ⟨by simp [behE, hB, hb], ?_⟩
      have : behS l 0 ⟨#[118, 32]⟩ = 2 := by simp [behS, hB, hb]; rfl
      rw [this]; exact hR
  rw [e1, e2] at C1
  have HI := Lib.hid hI
  have HD := Lib.hid h
  have HLM := Lib.hid hlm
  clear e1 e2 hI h hR hlm
  go_enter Tryd.func26, Tryd.ntmps26
  go_wp2_with fail
  refine C1.mono ?_; rintro e w1 ⟨rfl, hb1⟩
  have F0 := Lib.hid (AW.first w1 A l.length c k0 bad0)
  have HD1 := Lib.hid ((HD.out.below hb1).mono hb1.size)
  have HB1 := Lib.hid hb1
  clear C1 hb1 HD
  go_wp2
  go_loopw [8, 9] (fun v i wr => ∃ (j k : Nat) (bad : Int) (M : List Bool), j ≤ n ∧ k ≤ l.length ∧ M.length ≤ j ∧ i = .int .i64 j ∧ AW w1 wr A l.length c k bad v M ∧ Hid ((bad = 0 ∧ gM l k (n - j) (j + 1) M = R) ∨ (bad = 2 ∧ R = ([], k, 2)))) (fun _ i _ => n - (intOf i).toNat)
  case atStart => exact ⟨0, k0, bad0, [], Nat.zero_le _, hk0, by simp, rfl, F0.out, HI⟩
  case round =>
    obtain ⟨j, k, bad, M, hj, hk, hMl, rfl, hG, HJ⟩ := hrel
    clear F0 HI hk0
    obtain ⟨Av, cv, rfl, _⟩ := hG.own.val
    have p0 := hG.c0.1
    have p1 := hG.c1.1
    have p2 := hG.c2.1
    have f0 := hG.c0.2
    have f1 := hG.c1.2
    have f2 := hG.c2.2
    have ps : w1.heap.size < wr.heap.size := by have := hG.sz; omega
    rcases HJ.out with ⟨rfl, hg⟩ | ⟨rfl, hg⟩
    · by_cases hlt : j < n
      · have d0 : decide ((j : Int) < n) = true := decide_eq_true (by omega)
        have d1 : decide (j < n) = true := decide_eq_true hlt
        have hrd := (HD1.out.below hG.bel).mono hG.bel.size
        have C2 := Word_ok A c k l ⟨#[45]⟩ wr hrd hk HLM.out (by decide)
        have hB : isB l k ⟨#[45]⟩ = bS (l.drop k) [45] := isB_bS l k ⟨#[45]⟩
        obtain ⟨a, ha⟩ : ∃ a : Nat, a = if bS (l.drop k) [45] then 1 else 0 := ⟨_, rfl⟩
        have hka : behS l k ⟨#[45]⟩ = k + a := by
          rw [ha, behS, hB]; split <;> rfl
        have hkl : k + a ≤ l.length := by rw [← hka]; exact behS_le hk
        have hstr : strOf (litS ((j + 1 : Nat) : Int)) = strOf (Lib.itoa ((j + 1 : Nat) : Int)) ++ ⟨#[32]⟩ := by
          rw [litS, ← strOf_app]; rfl
        have hsh := itoa_short ((j + 1 : Nat) : Int) (by omega) (by omega)
        have zf : (strOf (Lib.itoa ((j + 1 : Nat) : Int))).size ≤ 7 := hsh
        have hss := size_of_app zf
        rw [← hstr] at hss
        have CW := fun wx hx => Word_ok A c (k + a) l (strOf (litS ((j + 1 : Nat) : Int))) wx hx hkl HLM.out (by unfold maxLen; omega)
        have hB2 : isB l (k + a) (strOf (litS ((j + 1 : Nat) : Int))) = bS (l.drop (k + a)) (litS ((j + 1 : Nat) : Int)) := by rw [isB_bS, strOf_data]
        have CF := fun wx => refFig_any ((j + 1 : Nat) : Int) (by omega) (by omega) wx
        obtain ⟨k', bad', e3, e4, hk', hI'⟩ : ∃ (k' : Nat) (bad' : Int), behS l (k + a) (strOf (litS ((j + 1 : Nat) : Int))) = k' ∧ behE l (k + a) (strOf (litS ((j + 1 : Nat) : Int))) = bad' ∧ k' ≤ l.length ∧ ((bad' = 0 ∧ gM l k' (n - (j + 1)) (j + 1 + 1) (M ++ [!bS (l.drop k) [45]]) = R) ∨ (bad' = 2 ∧ R = ([], k', 2))) := by
          refine ⟨_, _, rfl, rfl, behS_le hkl, ?_⟩
          rw [show n - j = (n - (j + 1)) + 1 by omega] at hg
          cases hb : bS (l.drop (k + a)) (litS ((j + 1 : Nat) : Int))
          · right
            rw [gM_no l k _ _ a M ha hb] at hg
            exact ⟨by rw [behE, hB2, hb]; rfl, by rw [← hg, behS, hB2, hb]; rfl⟩
          · left
            rw [gM_yes l k _ _ a M ha hb] at hg
            refine ⟨by rw [behE, hB2, hb]; rfl, ?_⟩
            have : behS l (k + a) (strOf (litS ((j + 1 : Nat) : Int))) = k + a + (litS ((j + 1 : Nat) : Int)).length := by rw [behS, hB2, hb]; rfl
            rw [this]; exact hg
        rw [e3, e4] at CW
        rw [hstr] at CW
        have HCW := Lib.hid CW
        have HCF := Lib.hid CF
        have HI' := Lib.hid hI'
        generalize strOf (Lib.itoa ((j + 1 : Nat) : Int)) = F at *
        have y1 : ¬ (9223372036854775807 < F.size + 1) := by omega
        have HG := Lib.hid hG
        have hbE : behE l k ⟨#[45]⟩ = if bS (l.drop k) [45] then 0 else 2 := by rw [behE, hB]
        rw [hka, hbE] at C2
        have HCF1 : Hid (∀ wx : World, Calls Tryd.prog 51 #[.int .i64 (IntKind.i64.wrap ((j : Int) + 1))] wx (RetV wx (.string F))) := by
          intro wx
          rw [show IntKind.i64.wrap ((j : Int) + 1) = ((j + 1 : Nat) : Int) from wrap_fit (by omega) (by omega)]
          exact HCF.out wx
        have HCF2 : Hid (∀ wx : World, Calls Tryd.prog 51 #[.int .i64 ((j : Int) + 1)] wx (RetV wx (.string F))) := HCF.out
        generalize hk1 : k + a = k1 at *
        clear HCF hB hB2 hbE hka hss hsh hstr zf CW CF hI' e3 e4 hg HJ hG hrd
        cases hb : bS (l.drop k) [45]
        · rw [hb] at C2 HI' ha
          rw [if_neg (by simp)] at C2 ha
          subst ha
          obtain rfl : k = k1 := hk1
          clear hb
          go_wp2_with fail
          refine C2.mono ?_; rintro e w2 ⟨rfl, hb2⟩
          have hA := bal (Below.refl w2.heap.size w2) (.cells #[.slice A l.length c, .int .i64 (k : Int), .int .i64 2] 102)
          have hG3 := (HG.out.nx hb2).nx hA
          have hlt2 : w1.heap.size < w2.heap.size := by have := HG.out.sz; have := hb2.size; omega
          have hown := hG3.own
          have hs3 := hG3.sz
          have HG3 := Lib.hid hG3
          have hml : M.length ≤ 3000000000 := by omega
          have hz2 : (w2.alloc (.cells #[.slice A l.length c, .int .i64 (k : Int), .int .i64 2] 102)).heap.size = w2.heap.size + 1 := by simp
          clear C2 hb2 p0 p1 p2 f0 f1 f2 ps hA hG3
          go_wp2_with (first
            | (at_builtin; refine wpB3 rfl (.tmp 30) (.tmp 34) rfl (w1.heap.size + 1) _ M rfl hown true (w2.heap.size + 1) hz2 rfl hs3 hml ?_))
          intro v' w5 ho5 hb5
          have hG5 := HG3.out.low hb5 ho5
          have p0 := hG5.c0.1
          have p1 := hG5.c1.1
          have p2 := hG5.c2.1
          have f0 := hG5.c0.2
          have f1 := hG5.c1.2
          have f2 := hG5.c2.2
          have ps : w1.heap.size < w5.heap.size := by have := hG5.sz; omega
          have HG5 := Lib.hid hG5
          clear ho5 hb5 hown HG3 hG5 HG hz2 hs3 hlt2
          go_wp2_with fail
          have hU := (Below.refl w5.heap.size w5).drew
          have HK : Hid (∀ wx, Below w5.heap.size w5 wx → wx.cell? ⟨w1.heap.size, 0, none⟩ = some (.slice A l.length c) ∧ wx.cell? ⟨w1.heap.size, 1, none⟩ = some (.int .i64 (k : Int)) ∧ wx.cell? ⟨w1.heap.size, 2, none⟩ = some (.int .i64 0)) := fun wx hb => ⟨(HG5.out.nx hb).c0.1, (HG5.out.nx hb).c1.1, (HG5.out.nx hb).c2.1⟩
          have K0 := HK.out _ hU
          obtain ⟨k00, k01, k02⟩ := K0
          go_region_with (first
            | (go_at_call 51; ((with_reducible refine (HCF1.out _).mono ?_); rintro e u1 ⟨rfl, hu1⟩; have U1 := bnx hU hu1; obtain ⟨k10, k11, k12⟩ := HK.out _ U1))
            | (go_at_call 51; ((with_reducible refine (HCF2.out _).mono ?_); rintro e u1 ⟨rfl, hu1⟩; have U1 := bnx hU hu1; obtain ⟨k10, k11, k12⟩ := HK.out _ U1))
            | (go_at_call 56; ((with_reducible refine (HCW.out _ ((HD1.out.below (HG5.out.nx U1).bel).mono (HG5.out.nx U1).bel.size)).mono ?_); rintro e u2 ⟨rfl, hu2⟩; have U2 := bnx U1 hu2; obtain ⟨k20, k21, k22⟩ := HK.out _ U2; have f20 := (HG5.out.nx U2).c0.2; have f21 := (HG5.out.nx U2).c1.2; have f22 := (HG5.out.nx U2).c2.2; have ps2 : w1.heap.size < u2.heap.size := by (have := (HG5.out.nx U2).sz; omega))))
          all_goals
            have HG7 := Lib.hid ((HG5.out.nx U2).put (k' : Int) bad')
            clear HK k00 k01 k02 k10 k11 k12
            go_wp2
            go_roundw
            case rel => exact ⟨j + 1, k', bad', _, by omega, hk', by simp; omega, by go_num, HG7.out, HI'⟩
            case measure => simp [intOf]; omega
        · rw [hb] at C2 HI' ha
          rw [if_pos rfl] at C2 ha
          have HA1 := Lib.hid hk1
          clear hb ha hk1
          go_wp2_with fail
          refine C2.mono ?_; rintro e w2 ⟨rfl, hb2⟩
          have hA := bal (Below.refl w2.heap.size w2) (.cells #[.slice A l.length c, .int .i64 (k1 : Int), .int .i64 0] 102)
          have hG2 := HG.out.nx hb2
          have g0 := hG2.c0.1
          have g1 := hG2.c1.1
          have g2 := hG2.c2.1
          have gf0 := hG2.c0.2
          have gf1 := hG2.c1.2
          have gf2 := hG2.c2.2
          have hG3 := (hG2.put (k1 : Int) 0).nx (bal (Below.refl _ _) (.cells #[.slice A l.length c, .int .i64 (k1 : Int), .int .i64 0] 102))
          have hlt2 : w1.heap.size < w2.heap.size := by have := HG.out.sz; have := hb2.size; omega
          have hown := hG3.own
          have hs3 := hG3.sz
          have HG3 := Lib.hid hG3
          have hml : M.length ≤ 3000000000 := by omega
          have hz2 : ((((w2.setCell ⟨w1.heap.size, 0, none⟩ (.slice A l.length c)).setCell ⟨w1.heap.size, 1, none⟩ (.int .i64 (k1 : Int))).setCell ⟨w1.heap.size, 2, none⟩ (.int .i64 0)).alloc (.cells #[.slice A l.length c, .int .i64 (k1 : Int), .int .i64 0] 102)).heap.size = w2.heap.size + 1 := by simp
          clear C2 hb2 p0 p1 p2 f0 f1 f2 ps hA hG3 hG2
          go_wp2_with (first
            | (at_builtin; refine wpB3 rfl (.tmp 30) (.tmp 34) rfl (w1.heap.size + 1) _ M rfl hown false (w2.heap.size + 1) hz2 rfl hs3 hml ?_))
          intro v' w5 ho5 hb5
          have hG5 := HG3.out.low hb5 ho5
          have p0 := hG5.c0.1
          have p1 := hG5.c1.1
          have p2 := hG5.c2.1
          have f0 := hG5.c0.2
          have f1 := hG5.c1.2
          have f2 := hG5.c2.2
          have ps : w1.heap.size < w5.heap.size := by have := hG5.sz; omega
          have HG5 := Lib.hid hG5
          clear ho5 hb5 hown HG3 hG5 HG hz2 hs3 hlt2 g0 g1 g2 gf0 gf1 gf2
          go_wp2_with fail
          have hU := (Below.refl w5.heap.size w5).drew
          have HK : Hid (∀ wx, Below w5.heap.size w5 wx → wx.cell? ⟨w1.heap.size, 0, none⟩ = some (.slice A l.length c) ∧ wx.cell? ⟨w1.heap.size, 1, none⟩ = some (.int .i64 (k1 : Int)) ∧ wx.cell? ⟨w1.heap.size, 2, none⟩ = some (.int .i64 0)) := fun wx hb => ⟨(HG5.out.nx hb).c0.1, (HG5.out.nx hb).c1.1, (HG5.out.nx hb).c2.1⟩
          have K0 := HK.out _ hU
          obtain ⟨k00, k01, k02⟩ := K0
          go_region_with (first
            | (go_at_call 51; ((with_reducible refine (HCF1.out _).mono ?_); rintro e u1 ⟨rfl, hu1⟩; have U1 := bnx hU hu1; obtain ⟨k10, k11, k12⟩ := HK.out _ U1))
            | (go_at_call 51; ((with_reducible refine (HCF2.out _).mono ?_); rintro e u1 ⟨rfl, hu1⟩; have U1 := bnx hU hu1; obtain ⟨k10, k11, k12⟩ := HK.out _ U1))
            | (go_at_call 56; ((with_reducible refine (HCW.out _ ((HD1.out.below (HG5.out.nx U1).bel).mono (HG5.out.nx U1).bel.size)).mono ?_); rintro e u2 ⟨rfl, hu2⟩; have U2 := bnx U1 hu2; obtain ⟨k20, k21, k22⟩ := HK.out _ U2; have f20 := (HG5.out.nx U2).c0.2; have f21 := (HG5.out.nx U2).c1.2; have f22 := (HG5.out.nx U2).c2.2; have ps2 : w1.heap.size < u2.heap.size := by (have := (HG5.out.nx U2).sz; omega))))
          all_goals
            have HG7 := Lib.hid ((HG5.out.nx U2).put (k' : Int) bad')
            clear HK k00 k01 k02 k10 k11 k12
            go_wp2
            go_roundw
            case rel => exact ⟨j + 1, k', bad', _, by omega, hk', by simp; omega, by go_num, HG7.out, HI'⟩
            case measure => simp [intOf]; omega
      · obtain rfl : j = n := by omega
        rw [Nat.sub_self, gM_zero] at hg
        have C2 := Word_ok A c k l ⟨#[48, 10]⟩ wr ((HD1.out.below hG.bel).mono hG.bel.size) hk HLM.out (by decide)
        have hB : isB l k ⟨#[48, 10]⟩ = bS (l.drop k) [48, 10] := isB_bS l k ⟨#[48, 10]⟩
        have HG := Lib.hid hG
        have d0 : decide ((j : Int) < j) = false := by simp
        cases hb : bS (l.drop k) [48, 10]
        · rw [hb, if_pos rfl] at hg
          rw [show behS l k ⟨#[48, 10]⟩ = k by simp [behS, hB, hb], show behE l k ⟨#[48, 10]⟩ = 2 by simp [behE, hB, hb]] at C2
          subst hg
          clear HJ hG hB hb
          go_wp2_with fail
          refine C2.mono ?_; rintro e w2 ⟨rfl, hb2⟩
          have C3 := End_any A l.length c k 2 w2
          rw [if_neg (by simp)] at C3
          have hG2 := HG.out.nx hb2
          clear C2 hb2 p0 p1 p2 f0 f1 f2 ps
          go_wp2_with fail
          refine C3.mono ?_; rintro e w3 ⟨rfl, hb3⟩
          have hG3 := hG2.nx hb3
          have p0 := hG3.c0.1
          have p1 := hG3.c1.1
          have p2 := hG3.c2.1
          have f0 := hG3.c0.2
          have f1 := hG3.c1.2
          have f2 := hG3.c2.2
          have ps : w1.heap.size < w3.heap.size := by have := hG3.sz; omega
          have HG4 := Lib.hid (hG3.put ((k : Int)) 2)
          have q1 := (hG3.put ((k : Int)) 2).c1.1
          have q2 := (hG3.put ((k : Int)) 2).c2.1
          clear C3 hb3 hG2 hG3
          go_wp2
          go_quiet (fail)
          go_wp2
          go_ret3
          exact RetM.no (bnx HB1.out (below_drewN HG4.out.bel _))
        · rw [hb, if_neg (by simp)] at hg
          rw [show behS l k ⟨#[48, 10]⟩ = k + 2 by simp [behS, hB, hb]; rfl, show behE l k ⟨#[48, 10]⟩ = 0 by simp [behE, hB, hb]] at C2
          by_cases hlast : k + 2 < l.length
          · rw [if_pos hlast] at hg
            subst hg
            clear HJ hG hB hb
            go_wp2_with fail
            refine C2.mono ?_; rintro e w2 ⟨rfl, hb2⟩
            have C3 := End_any A l.length c (k + 2) 0 w2
            rw [if_pos ⟨rfl, hlast⟩] at C3
            have hG2 := HG.out.nx hb2
            clear C2 hb2 p0 p1 p2 f0 f1 f2 ps
            go_wp2_with fail
            refine C3.mono ?_; rintro e w3 ⟨rfl, hb3⟩
            have hG3 := hG2.nx hb3
            have p0 := hG3.c0.1
            have p1 := hG3.c1.1
            have p2 := hG3.c2.1
            have f0 := hG3.c0.2
            have f1 := hG3.c1.2
            have f2 := hG3.c2.2
            have ps : w1.heap.size < w3.heap.size := by have := hG3.sz; omega
            have HG4 := Lib.hid (hG3.put (((k + 2 : Nat) : Int)) 2)
            have q1 := (hG3.put (((k + 2 : Nat) : Int)) 2).c1.1
            have q2 := (hG3.put (((k + 2 : Nat) : Int)) 2).c2.1
            clear C3 hb3 hG2 hG3
            go_wp2
            go_quiet (fail)
            go_wp2
            go_ret3
            exact RetM.no (bnx HB1.out (below_drewN HG4.out.bel _))
          · rw [if_neg hlast] at hg
            subst hg
            clear HJ hG hB hb
            go_wp2_with fail
            refine C2.mono ?_; rintro e w2 ⟨rfl, hb2⟩
            have C3 := End_any A l.length c (k + 2) 0 w2
            rw [if_neg (fun h => hlast h.2)] at C3
            have hG2 := HG.out.nx hb2
            clear C2 hb2 p0 p1 p2 f0 f1 f2 ps
            go_wp2_with fail
            refine C3.mono ?_; rintro e w3 ⟨rfl, hb3⟩
            have hG3 := hG2.nx hb3
            have p0 := hG3.c0.1
            have p1 := hG3.c1.1
            have p2 := hG3.c2.1
            have f0 := hG3.c0.2
            have f1 := hG3.c1.2
            have f2 := hG3.c2.2
            have ps : w1.heap.size < w3.heap.size := by have := hG3.sz; omega
            have HG4 := Lib.hid (hG3.put (((k + 2 : Nat) : Int)) 0)
            have q1 := (hG3.put (((k + 2 : Nat) : Int)) 0).c1.1
            have q2 := (hG3.put (((k + 2 : Nat) : Int)) 0).c2.1
            clear C3 hb3 hG2 hG3
            go_wp2
            go_quiet (fail)
            go_wp2
            go_ret3
            obtain ⟨A9, c9, hv9, r9, n9⟩ := HG4.out.own.val
            simp only [Value.slice.injEq] at hv9
            obtain ⟨rfl, _, rfl⟩ := hv9
            exact ⟨Av, cv, rfl, r9.nx (below_drewN (Below.refl _ _) _), n9, bnx HB1.out (below_drewN HG4.out.bel _)⟩
    · subst hg
      have C2 := Word_bad A l.length c k 2 ⟨#[48, 10]⟩ wr (by decide)
      have HG := Lib.hid hG
      clear HJ hG
      have hd : (decide ((j : Int) < n) = true ∧ decide (j < n) = true) ∨ (decide ((j : Int) < n) = false ∧ decide (j < n) = false) := by
        by_cases hx : j < n
        · exact .inl ⟨decide_eq_true (by omega), decide_eq_true hx⟩
        · exact .inr ⟨decide_eq_false (by omega), decide_eq_false hx⟩
      rcases hd with ⟨d0, d1⟩ | ⟨d0, d1⟩
      all_goals
        go_wp2_with fail
        refine C2.mono ?_; rintro e w2 ⟨rfl, hb2⟩
        have C3 := End_any A l.length c k 2 w2
        rw [if_neg (by simp)] at C3
        have hG2 := HG.out.nx hb2
        clear C2 hb2 p0 p1 p2 f0 f1 f2 ps
        go_wp2_with fail
        refine C3.mono ?_; rintro e w3 ⟨rfl, hb3⟩
        have hG3 := hG2.nx hb3
        have p0 := hG3.c0.1
        have p1 := hG3.c1.1
        have p2 := hG3.c2.1
        have f0 := hG3.c0.2
        have f1 := hG3.c1.2
        have f2 := hG3.c2.2
        have ps : w1.heap.size < w3.heap.size := by have := hG3.sz; omega
        have HG4 := Lib.hid (hG3.put (k : Int) 2)
        have q1 := (hG3.put (k : Int) 2).c1.1
        have q2 := (hG3.put (k : Int) 2).c2.1
        clear C3 hb3 hG2 hG3
        go_wp2
        go_quiet (fail)
        go_wp2
        go_ret3
        exact RetM.no (bnx HB1.out (below_drewN HG4.out.bel _))
end Go.Proofs.YtplcabecbofjpaaDoor
