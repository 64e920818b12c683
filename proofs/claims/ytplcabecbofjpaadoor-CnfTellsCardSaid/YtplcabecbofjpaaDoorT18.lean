/-
  The reference's Lits.
-/
import Derived.Test.YtplcabecbofjpaaDoorProg
import Derived.WalkKit
import Derived.WalkSpells
import Derived.WalkLawsBesides
import Derived.Lib.Hide
import Derived.BigQuiet
import Derived.Deep.QuietTactic
import Derived.Deep.RegionWith
import Derived.Deep.RegionHeld3
import Derived.Test.YtplcabecbofjpaaDoorT17
set_option linter.unusedVariables false
namespace Go.Proofs.YtplcabecbofjpaaDoor
open Go.RowKit
theorem signed_err {t : List UInt8} {most : Int} (h : (signedS t most).2.2 ≠ 0) : (signedS t most).2.1 = 0 := by
  unfold signedS at *
  by_cases h1 : (t.take 1 == [(45 : UInt8)]) = true
  · rw [if_pos h1] at h ⊢
    by_cases h2 : ((t.drop 1).take 1 == [(48 : UInt8)]) = true
    · rw [if_pos h2]
    · rw [if_neg h2] at h ⊢
      by_cases h3 : (numberS (t.drop 1) most).2.2 = 0
      · rw [if_pos h3] at h; exact absurd rfl h
      · rw [if_neg h3]
  · rw [if_neg h1] at h ⊢
    exact (numberS_err h).2
/-- What a call tells that reads a clause the reference's way. -/
def RetL (w0 : World) (A : Option Addr) (n c : Nat) (R : List Int) (K : Nat) (E : Int) (e : Ending) (w' : World) : Prop :=
  ∃ v, e = .returned (.tuple #[v, .agg #[.slice A n c, .int .i64 (K : Int), .int .i64 E]]) ∧ OwnI w' w0.heap.size v R ∧ Below w0.heap.size w0 w'
set_option maxHeartbeats 8000000 in
set_option maxRecDepth 100000 in
theorem Lits_ok (A : Option Addr) (c k : Nat) (most : Int) (l : List UInt8) (w : World) (h : Rd w w.heap.size A l) (hk : k ≤ l.length) (hn : l.length ≤ 1000000) (hm : 0 ≤ most) (hm2 : most ≤ 2147483647) :
    Calls Tryd.prog 57 #[.agg #[.slice A l.length c, .int .i64 k, .int .i64 0], .int .i64 most] w (RetL w A l.length c (rdCl most (l.drop k) []).1 (k + (rdCl most (l.drop k) []).2.1) (rdCl most (l.drop k) []).2.2) := by
  obtain ⟨⟨R, a0, E⟩, hX⟩ : ∃ X, rdCl most (l.drop k) [] = X := ⟨_, rfl⟩
  rw [hX]
  simp only
  obtain ⟨K, hK⟩ : ∃ K, k + a0 = K := ⟨_, rfl⟩
  rw [hK]
  have HI := Lib.hid (And.intro hX hK)
  have F0 := Lib.hid (AL.first w A l.length c k 0)
  have HD := Lib.hid h
  have hlm : l.length ≤ maxLen := by unfold maxLen; omega
  have HLM := Lib.hid hlm
  clear hX hK h hlm
  go_enter Tryd.func57, Tryd.ntmps57
  go_wp2
  go_loopw [6] (fun v wr => ∃ (k : Nat) (bad : Int) (M : List Int), k ≤ l.length ∧ M.length ≤ 1000 ∧ AL w wr A l.length c k bad v M ∧ Hid ((bad = 0 ∧ ∃ a, rdCl most (l.drop k) M = (R, a, E) ∧ k + a = K) ∨ (bad = 2 ∧ R = [] ∧ K = k ∧ E = 2))) (fun _ wr => l.length + 1 - kOf wr w.heap.size)
  case atStart => exact ⟨k, 0, [], hk, by simp, F0.out, .inl ⟨rfl, a0, HI.out.1, HI.out.2⟩⟩
  case round =>
    clear HI F0 hk
    obtain ⟨k, bad, M, hk, hMl, hG, HJ⟩ := hrel
    obtain ⟨Av, cv, rfl, hRI, hAn, hlc, hcm⟩ := hG.own.val
    have p0 := hG.c0.1
    have p1 := hG.c1.1
    have p2 := hG.c2.1
    have f0 := hG.c0.2
    have f1 := hG.c1.2
    have f2 := hG.c2.2
    have g0 := hG.r0.1
    have g1 := hG.r1.1
    have g2 := hG.r2.1
    have e0 := hG.r0.2
    have e1 := hG.r1.2
    have e2 := hG.r2.2
    have ps : w.heap.size < wr.heap.size := by have := hG.sz; omega
    have ps1 : w.heap.size + 1 < wr.heap.size := by have := hG.sz; omega
    have HG := Lib.hid hG
    rcases HJ.out with ⟨rfl, a, hg, hKa⟩ | ⟨rfl, rfl, rfl, rfl⟩
    · have hrd := (HD.out.below hG.bel).mono hG.bel.size
      have C2 := refSigned_ok A c k most l wr hrd hk hn hm hm2
      have hsl := signedS_len (l.drop k) most
      have hsb := signedS_bd (l.drop k) most
      have hse := signed_err (t := l.drop k) (most := most)
      have hsp := signed_pos (t := l.drop k) (most := most)
      rw [rdCl] at hg
      obtain ⟨⟨x, m, z⟩, hr⟩ : ∃ r, signedS (l.drop k) most = r := ⟨_, rfl⟩
      rw [hr] at hg C2 hsl hsb hse hsp
      unfold numV3 at C2
      simp only [List.drop_drop] at hg C2 hsl hsb hse hsp
      rw [List.length_drop] at hsl
      clear hr hrd HJ hG
      by_cases hz : z = 0
      · subst hz
        have hm1 := hsp rfl
        rw [if_neg (by simp)] at hg
        clear hse hsp
        by_cases hx : x = 0
        · subst hx
          rw [if_pos rfl] at hg
          have hkm : k + m ≤ l.length := by omega
          have hB : isB l (k + m) ⟨#[10]⟩ = bS (l.drop (k + m)) [10] := isB_bS l (k + m) ⟨#[10]⟩
          obtain ⟨k', bad', e3, e4, hRR⟩ : ∃ (k' : Nat) (bad' : Int), behS l (k + m) ⟨#[10]⟩ = k' ∧ behE l (k + m) ⟨#[10]⟩ = bad' ∧ (R = M ∧ K = k' ∧ E = bad') := by
            refine ⟨_, _, rfl, rfl, ?_⟩
            cases hb : bS (l.drop (k + m)) [10]
            · rw [hb, if_neg (by simp)] at hg
              simp only [Prod.mk.injEq] at hg
              obtain ⟨rfl, rfl, rfl⟩ := hg
              refine ⟨rfl, ?_, ?_⟩
              · rw [behS, hB, hb, ← hKa]; rfl
              · rw [behE, hB, hb]; rfl
            · rw [hb, if_pos rfl] at hg
              simp only [Prod.mk.injEq] at hg
              obtain ⟨rfl, rfl, rfl⟩ := hg
              refine ⟨rfl, ?_, ?_⟩
              · rw [behS, hB, hb, ← hKa, if_pos rfl]; rfl
              · rw [behE, hB, hb]; rfl
          obtain ⟨rfl, rfl, rfl⟩ := hRR
          clear hg hB hKa
          go_wp2_with fail
          refine C2.mono ?_; rintro e w2 ⟨rfl, hb2⟩
          have hA := bal (Below.refl w2.heap.size w2) (.cells #[.slice A l.length c, .int .i64 ((k + m : Nat) : Int), .int .i64 0] 102)
          have hG2 := HG.out.nx hb2
          have hG3 := hG2.nx hA
          have C3 := Word_ok A c (k + m) l ⟨#[10]⟩ (w2.alloc (.cells #[.slice A l.length c, .int .i64 ((k + m : Nat) : Int), .int .i64 0] 102)) ((HD.out.below hG3.bel).mono hG3.bel.size) hkm HLM.out (by decide)
          rw [e3, e4] at C3
          have HG3 := Lib.hid hG3
          clear C2 hb2 hG2 hG3 hA p0 p1 p2 f0 f1 f2 g0 g1 g2 e0 e1 e2 ps ps1 e3 e4
          generalize k + m = k1 at *
          go_wp2_with fail
          refine C3.mono ?_; rintro e w4 ⟨rfl, hb4⟩
          have hG4 := HG3.out.nx hb4
          have g0 := hG4.r0.1
          have g1 := hG4.r1.1
          have g2 := hG4.r2.1
          have e0 := hG4.r0.2
          have e1 := hG4.r1.2
          have e2 := hG4.r2.2
          have ps1 : w.heap.size + 1 < w4.heap.size := by have := hG4.sz; omega
          have HG4 := Lib.hid hG4
          clear C3 hb4 hG4
          go_wp2
          exact bodyPost_ret (v := .tuple #[.slice Av R.length cv, .agg #[.slice A l.length c, .int .i64 (K : Int), .int .i64 E]]) (by simp [results, Tryd.results57, go_sem, *]) rfl ⟨_, rfl, ownsRow_setCell_below (ownsRow_setCell_below (ownsRow_setCell_below HG4.out.own (by simp) _) (by simp) _) (by simp) _ |> fun hh => OwnI.base hh (by omega), ((HG4.out.bel.setCell (by simp) _).setCell (by simp) _).setCell (by simp) _⟩
        · rw [if_neg hx] at hg
          have hxb : (x == 0) = false := by simp [hx]
          by_cases hfull : M.length = 1000
          · rw [if_pos hfull] at hg
            simp only [Prod.mk.injEq] at hg
            obtain ⟨rfl, rfl, rfl⟩ := hg
            obtain rfl : k = K := by omega
            have hfb : ((M.length : Int) == 1000) = true := by rw [beq_iff_eq]; omega
            clear hKa
            generalize k + m = k1 at *
            go_wp2_with fail
            refine C2.mono ?_; rintro e w2 ⟨rfl, hb2⟩
            have hG2 := HG.out.nx hb2
            have p0 := hG2.c0.1
            have p1 := hG2.c1.1
            have p2 := hG2.c2.1
            have f0 := hG2.c0.2
            have f1 := hG2.c1.2
            have f2 := hG2.c2.2
            have g0 := hG2.r0.1
            have g1 := hG2.r1.1
            have g2 := hG2.r2.1
            have e0 := hG2.r0.2
            have e1 := hG2.r1.2
            have e2 := hG2.r2.2
            have ps1 : w.heap.size + 1 < w2.heap.size := by have := hG2.sz; omega
            have ps : w.heap.size < w2.heap.size := by omega
            have HG2 := Lib.hid hG2
            clear C2 hb2 hG2
            go_wp2
            go_region
            all_goals go_wp2
            all_goals exact bodyPost_ret (v := .tuple #[.slice none 0 0, .agg #[.slice A l.length c, .int .i64 (k : Int), .int .i64 3]]) (by simp [results, Tryd.results57, go_sem, *]) rfl ⟨_, rfl, OwnI.nil _ _, (bal ((((HG2.out.bel.setCell (by simp) _).setCell (by simp) _).setCell (by simp) _).setCell (by simp) _) _).drew⟩
          · rw [if_neg hfull] at hg
            have hfb : ((M.length : Int) == 1000) = false := by rw [beq_eq_false_iff_ne]; omega
            have hkm : k + m ≤ l.length := by omega
            have hB : isB l (k + m) ⟨#[32]⟩ = bS (l.drop (k + m)) [32] := isB_bS l (k + m) ⟨#[32]⟩
            obtain ⟨k', bad', e3, e4, hk', hlt', hI'⟩ : ∃ (k' : Nat) (bad' : Int), behS l (k + m) ⟨#[32]⟩ = k' ∧ behE l (k + m) ⟨#[32]⟩ = bad' ∧ k' ≤ l.length ∧ k < k' ∧ ((bad' = 0 ∧ ∃ a, rdCl most (l.drop k') (M ++ [x]) = (R, a, E) ∧ k' + a = K) ∨ (bad' = 2 ∧ R = [] ∧ K = k' ∧ E = 2)) := by
              cases hb : bS (l.drop (k + m)) [32]
              · rw [dif_neg (by simp [hb])] at hg
                simp only [Prod.mk.injEq] at hg
                obtain ⟨rfl, rfl, rfl⟩ := hg
                have e5 : behS l (k + m) ⟨#[32]⟩ = k + m := by rw [behS, hB, hb]; rfl
                exact ⟨_, _, e5, rfl, hkm, by omega, .inr ⟨by rw [behE, hB, hb]; rfl, rfl, hKa.symm, rfl⟩⟩
              · rw [dif_pos hb] at hg
                have e5 : behS l (k + m) ⟨#[32]⟩ = k + (m + 1) := by rw [behS, hB, hb, if_pos rfl]; rfl
                have h1 := behS_le (s := ⟨#[32]⟩) hkm
                rw [e5] at h1
                refine ⟨_, _, e5, rfl, h1, by omega, .inl ⟨by rw [behE, hB, hb]; rfl, ?_⟩⟩
                generalize rdCl most (l.drop (k + (m + 1))) (M ++ [x]) = q at *
                obtain ⟨q1, q2, q3⟩ := q
                simp only [Prod.mk.injEq] at hg
                obtain ⟨rfl, rfl, rfl⟩ := hg
                exact ⟨q2, rfl, by omega⟩
            have HI' := Lib.hid hI'
            have hkOf := HG.out.kOf
            clear hg hB hI' hKa
            go_wp2_with fail
            refine C2.mono ?_; rintro e w2 ⟨rfl, hb2⟩
            have hA := bal (Below.refl w2.heap.size w2) (.cells #[.slice A l.length c, .int .i64 ((k + m : Nat) : Int), .int .i64 0] 102)
            have hG2 := HG.out.nx hb2
            have hG3 := hG2.nx hA
            have hown := hG3.own
            have hs3 := hG3.sz
            have hz2 : (w2.alloc (.cells #[.slice A l.length c, .int .i64 ((k + m : Nat) : Int), .int .i64 0] 102)).heap.size = w2.heap.size + 1 := by simp
            have hob : (Value.slice Av M.length cv).ownBlock ≠ some w2.heap.size := by
              intro e
              have h5 := (World.ownsRow.lt HG.out.own) _ e
              have := hb2.size
              omega
            have t0 : (w2.alloc (.cells #[.slice A l.length c, .int .i64 ((k + m : Nat) : Int), .int .i64 0] 102)).cell? ⟨w2.heap.size, 0, none⟩ = some (.slice A l.length c) := by go_simp
            have t1 : (w2.alloc (.cells #[.slice A l.length c, .int .i64 ((k + m : Nat) : Int), .int .i64 0] 102)).cell? ⟨w2.heap.size, 1, none⟩ = some (.int .i64 ((k + m : Nat) : Int)) := by go_simp
            have t2 : (w2.alloc (.cells #[.slice A l.length c, .int .i64 ((k + m : Nat) : Int), .int .i64 0] 102)).cell? ⟨w2.heap.size, 2, none⟩ = some (.int .i64 0) := by go_simp
            have hml : M.length ≤ 100000 := by omega
            have HG3 := Lib.hid hG3
            have T0 := Lib.hid t0
            have T1 := Lib.hid t1
            have T2 := Lib.hid t2
            clear C2 hb2 hG2 hG3 hA p0 p1 p2 f0 f1 f2 g0 g1 g2 e0 e1 e2 ps ps1 t0 t1 t2
            generalize hk1 : k + m = k1 at *
            go_wp2_with (first
              | (at_builtin; refine wpI4 rfl (.tmp 32) (.tmp 34) rfl (w.heap.size + 1 + 1) _ M rfl hown x (w2.heap.size + 1) hz2 rfl hs3 hml ?_))
            intro v' w5 ho5 hb5 hfar
            have hG5 := HG3.out.kept hb5 ho5
            have s0 := (hfar ⟨w2.heap.size, 0, none⟩ (by simp) hob).trans T0.out
            have s1 := (hfar ⟨w2.heap.size, 1, none⟩ (by simp) hob).trans T1.out
            have s2 := (hfar ⟨w2.heap.size, 2, none⟩ (by simp) hob).trans T2.out
            have ss : w2.heap.size < w5.heap.size := by have h7 := hb5.size; simp at h7; omega
            have C3 := Word_ok A c k1 l ⟨#[32]⟩ w5 ((HD.out.below hG5.bel).mono hG5.bel.size) hkm HLM.out (by decide)
            rw [e3, e4] at C3
            have HG5 := Lib.hid hG5
            clear ho5 hb5 hfar hG5 hown HG3 T0 T1 T2 hob hz2 hs3 e3 e4
            go_wp2_with fail
            refine C3.mono ?_; rintro e w6 ⟨rfl, hb6⟩
            have hG6 := HG5.out.nx hb6
            have p0 := hG6.c0.1
            have p1 := hG6.c1.1
            have p2 := hG6.c2.1
            have f0 := hG6.c0.2
            have f1 := hG6.c1.2
            have f2 := hG6.c2.2
            have ps : w.heap.size < w6.heap.size := by have := hG6.sz; omega
            have HG7 := Lib.hid (hG6.put (k' : Int) bad')
            have hk7 := (hG6.put (k' : Int) bad').kOf
            clear C3 hb6 hG6 s0 s1 s2 ss
            go_wp2
            go_roundw
            case rel => exact ⟨k', bad', M ++ [x], hk', by simp; omega, HG7.out, HI'⟩
            case measure => rw [hk7, hkOf]; omega
      · have hm0 := hse hz
        have hzb : (z != 0) = true := by simp [hz]
        rw [if_pos hz] at hg
        simp only [Prod.mk.injEq] at hg
        obtain ⟨rfl, rfl, rfl⟩ := hg
        obtain rfl : k + m = K := by omega
        clear hse hsp hKa hm0 hz
        generalize k + m = k1 at *
        go_wp2_with fail
        refine C2.mono ?_; rintro e w2 ⟨rfl, hb2⟩
        have hG2 := HG.out.nx hb2
        have g0 := hG2.r0.1
        have g1 := hG2.r1.1
        have g2 := hG2.r2.1
        have e0 := hG2.r0.2
        have e1 := hG2.r1.2
        have e2 := hG2.r2.2
        have ps1 : w.heap.size + 1 < w2.heap.size := by have := hG2.sz; omega
        have HG2 := Lib.hid hG2
        clear C2 hb2 hG2 p0 p1 p2 f0 f1 f2
        go_wp2
        go_region
        all_goals go_wp2
        all_goals exact bodyPost_ret (v := .tuple #[.slice none 0 0, .agg #[.slice A l.length c, .int .i64 (k1 : Int), .int .i64 z]]) (by simp [results, Tryd.results57, go_sem, *]) rfl ⟨_, rfl, OwnI.nil _ _, (bal (((HG2.out.bel.setCell (by simp) _).setCell (by simp) _).setCell (by simp) _) _).drew⟩
    · clear HJ hG
      go_wp2
      go_region
      all_goals go_wp2
      all_goals exact bodyPost_ret (v := .tuple #[.slice none 0 0, .agg #[.slice A l.length c, .int .i64 (K : Int), .int .i64 2]]) (by simp [results, Tryd.results57, go_sem, *]) rfl ⟨_, rfl, OwnI.nil _ _, (((HG.out.bel.setCell (by simp) _).setCell (by simp) _).setCell (by simp) _).drew⟩
end Go.Proofs.YtplcabecbofjpaaDoor
