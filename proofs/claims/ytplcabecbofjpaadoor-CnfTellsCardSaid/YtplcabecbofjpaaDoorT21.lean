/-
  The reference's Parse.
-/
import Derived.Test.YtplcabecbofjpaaDoorProg
import Derived.WalkKit
import Derived.WalkSpells
import Derived.WalkLawsBesides
import Derived.Lib.Hide
import Derived.BigQuiet
import Derived.Deep.QuietTactic
import Derived.Deep.RegionWith
import Derived.Deep.RegionHeld3
import Derived.Deep.Cut
import Derived.Test.YtplcabecbofjpaaDoorT20
set_option linter.unusedVariables false
namespace Go.Proofs.YtplcabecbofjpaaDoor
open Go.RowKit
theorem numP_bd (l : List UInt8) (p : Nat × Int) (most : Int) : 0 ≤ (numP l p most).1 ∧ (numP l p most).1 ≤ 2147483647 := by
  unfold numP; split
  · simp
  · have := numberS_bd (l.drop p.1) most
    simp only; omega
set_option maxHeartbeats 8000000 in
set_option maxRecDepth 100000 in
theorem refParse_in (A : Option Addr) (c : Nat) (l : List UInt8) (w : World) (h : Rd w w.heap.size A l) (hl : l.length ≤ 2000) :
    Calls Tryd.prog 20 #[.slice A l.length c] w (RetP w (parseS l).1.1 (parseS l).1.2 (parseS l).2.1 (parseS l).2.2) := by
  have hd : decide ((100000 : Int) < l.length) = false := decide_eq_false (by omega)
  have hlm : l.length ≤ maxLen := by unfold maxLen; omega
  have hl6 : l.length ≤ 1000000 := by omega
  have hbd := rdHead_bd l
  have hq := head_eq l
  obtain ⟨⟨⟨N, L'⟩, K, E⟩, hP⟩ : ∃ r, parseS l = r := ⟨_, rfl⟩
  rw [hP]
  simp only
  have hB0 := bal (Below.refl w.heap.size w) (.cells #[.int .i64 0, .slice none 0 0] 24)
  have hs0 : w.heap.size < (w.alloc (.cells #[.int .i64 0, .slice none 0 0] 24)).heap.size := by simp
  have q0 : (w.alloc (.cells #[.int .i64 0, .slice none 0 0] 24)).cell? ⟨w.heap.size, 0, none⟩ = some (.int .i64 0) ∧ (w.alloc (.cells #[.int .i64 0, .slice none 0 0] 24)).frozen? ⟨w.heap.size, 0, none⟩ = false := by constructor <;> go_simp
  have q1 : (w.alloc (.cells #[.int .i64 0, .slice none 0 0] 24)).cell? ⟨w.heap.size, 1, none⟩ = some (.slice none 0 0) ∧ (w.alloc (.cells #[.int .i64 0, .slice none 0 0] 24)).frozen? ⟨w.heap.size, 1, none⟩ = false := by constructor <;> go_simp
  have z0 : ((0, 0) : Nat × Int).1 ≤ l.length := Nat.zero_le _
  have z1 := wordP_le (s := ⟨#[112, 32, 99, 110, 102, 32]⟩) z0
  have z2 := numP_le (most := 100000) z1
  have z3 := wordP_le (s := ⟨#[32]⟩) z2
  have z4 := numP_le (most := 20000) z3
  have z5 := wordP_le (s := ⟨#[10]⟩) z4
  have C1 : Hid (∀ wx, Below w.heap.size w wx → Calls Tryd.prog 56 #[.agg #[.slice A l.length c, .int .i64 0, .int .i64 0], .string ⟨#[112, 32, 99, 110, 102, 32]⟩] wx _) := fun wx hx => Word_p A c l (0, 0) ⟨#[112, 32, 99, 110, 102, 32]⟩ wx ((h.below hx).mono hx.size) z0 hlm (by decide)
  have b2 := numP_bd l (wordP l (0, 0) ⟨#[112, 32, 99, 110, 102, 32]⟩) 100000
  have C2 := fun wx (hx : Below w.heap.size w wx) => Number_p A c l (wordP l (0, 0) ⟨#[112, 32, 99, 110, 102, 32]⟩) 100000 wx ((h.below hx).mono hx.size) z1 hl6 (by decide) (by decide)
  have C3 := fun wx (hx : Below w.heap.size w wx) => Word_p A c l (numP l (wordP l (0, 0) ⟨#[112, 32, 99, 110, 102, 32]⟩) 100000).2 ⟨#[32]⟩ wx ((h.below hx).mono hx.size) z2 hlm (by decide)
  have b4 := numP_bd l (wordP l (numP l (wordP l (0, 0) ⟨#[112, 32, 99, 110, 102, 32]⟩) 100000).2 ⟨#[32]⟩) 20000
  have C4 := fun wx (hx : Below w.heap.size w wx) => Number_p A c l (wordP l (numP l (wordP l (0, 0) ⟨#[112, 32, 99, 110, 102, 32]⟩) 100000).2 ⟨#[32]⟩) 20000 wx ((h.below hx).mono hx.size) z3 hl6 (by decide) (by decide)
  have C5 := fun wx (hx : Below w.heap.size w wx) => Word_p A c l (numP l (wordP l (numP l (wordP l (0, 0) ⟨#[112, 32, 99, 110, 102, 32]⟩) 100000).2 ⟨#[32]⟩) 20000).2 ⟨#[10]⟩ wx ((h.below hx).mono hx.size) z4 hlm (by decide)
  have C1 := C1.out
  generalize wordP l (0, 0) ⟨#[112, 32, 99, 110, 102, 32]⟩ = p1 at *
  obtain ⟨k1, e1⟩ := p1
  generalize numP l (k1, e1) 100000 = p2 at *
  obtain ⟨n, k2, e2⟩ := p2
  simp only at *
  generalize wordP l (k2, e2) ⟨#[32]⟩ = p3 at *
  obtain ⟨k3, e3⟩ := p3
  simp only at *
  generalize numP l (k3, e3) 20000 = p4 at *
  obtain ⟨many, k4, e4⟩ := p4
  simp only at *
  generalize wordP l (k4, e4) ⟨#[10]⟩ = p5 at *
  obtain ⟨k5, e5⟩ := p5
  simp only at *
  obtain ⟨M, rfl⟩ := Int.eq_ofNat_of_zero_le b4.1
  obtain ⟨n', q', k', e', hh⟩ : ∃ n' q' k' e', rdHead l = (n', q', k', e') := ⟨_, _, _, _, rfl⟩
  rw [hh] at hbd hq
  simp only [Prod.mk.injEq] at hbd hq
  obtain ⟨⟨rfl, rfl⟩, hq2⟩ := hq
  -- the loop's start
  obtain ⟨R, E1, K1, hS, hX⟩ : ∃ (R : List (List Int)) (E1 : Int) (K1 : Nat), ((e5 = 0 ∧ ∃ b, rdCls n (M - 0) (l.drop k5) [] = (R, b, E1) ∧ k5 + b = K1) ∨ (e5 ≠ 0 ∧ E1 = e5 ∧ K1 = k5)) ∧ (((N, L'), K, E) = if E1 ≠ 0 then ((0, []), K1, E1) else if K1 < l.length then ((0, []), K1, 2) else ((n, R), K1, 0)) := by
    rw [← hP]
    by_cases he : e5 = 0
    · obtain ⟨hn, hm⟩ := hq2 he
      subst he hn
      have hM : q'.toNat = M := by omega
      obtain ⟨R, a, E1, hr⟩ : ∃ R a E1, rdCls n M (l.drop k5) [] = (R, a, E1) := ⟨_, _, _, rfl⟩
      rw [← hM] at hr
      refine ⟨R, E1, k5 + a, .inl ⟨rfl, a, by rw [← hM]; exact hr, rfl⟩, ?_⟩
      split
      · rename_i hE; exact parse_ce (by omega) hh hr hE
      · rename_i hE
        have : E1 = 0 := by simpa using hE
        subst this
        split
        · rename_i h2; exact parse_en (by omega) hh hr h2
        · rename_i h2; exact parse_ok (by omega) hh hr h2
    · exact ⟨[], e5, k5, .inr ⟨he, rfl, rfl⟩, by rw [if_pos he]; exact parse_he (by omega) hh he⟩
  have HS := Lib.hid hS
  have HX := Lib.hid hX
  have HD := Lib.hid h
  have HC2 := Lib.hid C2
  have HC3 := Lib.hid C3
  have HC4 := Lib.hid C4
  have HC5 := Lib.hid C5
  have HLM := Lib.hid hlm
  have Q0 := Lib.hid q0
  have Q1 := Lib.hid q1
  have c1 := C1 _ hB0
  have hM1 := b4.2
  clear hS hX h hP hq2 hh hbd C1 C2 C3 C4 C5 hlm b4 q0 q1 z0 z1 z2 z3 z4
  go_enter Tryd.func20, Tryd.ntmps20
  go_wp2_with fail
  refine c1.mono ?_; rintro e w1 ⟨rfl, hb1⟩
  have B1 := bnx (Below.refl _ _) hb1
  have c2 := HC2.out w1 (bnx hB0 B1)
  clear c1 hb1
  go_wp2_with fail
  refine c2.mono ?_; rintro e w2 ⟨rfl, hb2⟩
  have B2 := bal (bnx B1 hb2) (.cells #[.slice A l.length c, .int .i64 (k2 : Int), .int .i64 e2] 102)
  have c3 := HC3.out _ (bnx hB0 B2)
  clear c2 hb2 B1
  go_wp2_with fail
  refine c3.mono ?_; rintro e w3 ⟨rfl, hb3⟩
  have B3 := bnx B2 hb3
  have c4 := HC4.out w3 (bnx hB0 B3)
  clear c3 hb3 B2
  go_wp2_with fail
  refine c4.mono ?_; rintro e w4 ⟨rfl, hb4⟩
  have B4 := bal (bnx B3 hb4) (.cells #[.slice A l.length c, .int .i64 (k4 : Int), .int .i64 e4] 102)
  have c5 := HC5.out _ (bnx hB0 B4)
  clear c4 hb4 B3
  go_wp2_with fail
  refine c5.mono ?_; rintro e w5 ⟨rfl, hb5⟩
  have B5 := bnx B4 hb5
  have F0 := Lib.hid (QW.first (bnx hB0 B5) (by have := B5.size; omega) ⟨(B5.cell hs0).trans Q0.out.1, (B5.frozen hs0).trans Q0.out.2⟩ ⟨(B5.cell hs0).trans Q1.out.1, (B5.frozen hs0).trans Q1.out.2⟩ A l.length c (k5 : Int) e5 n)
  clear c5 hb5 B4 B5 hB0 hs0 Q0 Q1 HC2 HC3 HC4 HC5
  go_wp2
  go_loopw [11] (fun i wr => ∃ (I j : Nat) (bad : Int) (v : Value) (L : List (List Int)), I ≤ M ∧ j ≤ l.length ∧ L.length = I ∧ i = .int .i64 I ∧ QW w wr w5.heap.size A l.length c j bad n v L ∧ Hid ((bad = 0 ∧ ∃ b, rdCls n (M - I) (l.drop j) L = (R, b, E1) ∧ j + b = K1) ∨ (bad ≠ 0 ∧ E1 = bad ∧ K1 = j))) (fun i _ => M - (intOf i).toNat)
  case atStart => exact ⟨0, k5, e5, _, [], Nat.zero_le _, z5, rfl, rfl, F0.out, HS⟩
  case round =>
    obtain ⟨I, j, bad, v, L, hI, hj, hL, rfl, hG, HJ⟩ := hrel
    clear F0 HS
    have p0 := hG.c0.1
    have p1 := hG.c1.1
    have p2 := hG.c2.1
    have f0 := hG.c0.2
    have f1 := hG.c1.2
    have f2 := hG.c2.2
    have ps : w5.heap.size < wr.heap.size := by have := hG.sz; omega
    have HG := Lib.hid hG
    by_cases hlt : I < M
    · have d0 : decide ((I : Int) < M) = true := decide_eq_true (by omega)
      have d1 : decide (I < M) = true := decide_eq_true hlt
      rcases HJ.out with ⟨rfl, b, hg, hKb⟩ | ⟨hb, hE1, hK1⟩
      · have hrd := (HD.out.below hG.bel).mono hG.bel.size
        have C2 := Lits_ok A c j n l wr hrd hj hl6 b2.1 b2.2
        have hlen := rdCl_len n l.length (l.drop j) [] (by simp)
        rw [List.length_drop] at hlen
        rw [show M - I = (M - (I + 1)) + 1 by omega, rdCls] at hg
        simp only [List.drop_drop] at hg
        obtain ⟨⟨o, m, z⟩, hr⟩ : ∃ r, rdCl n (l.drop j) [] = r := ⟨_, rfl⟩
        rw [hr] at C2 hlen hg
        simp only at C2 hlen hg
        obtain ⟨J, hJ⟩ : ∃ J, j + m = J := ⟨_, rfl⟩
        rw [hJ] at C2 hg
        have hJl : J ≤ l.length := by omega
        have HE : Hid ((z = 0 ∧ ∃ b, rdCls n (M - (I + 1)) (l.drop J) (L ++ [o]) = (R, b, E1) ∧ J + b = K1) ∨ (z ≠ 0 ∧ E1 = z ∧ K1 = J)) := by
          by_cases hz : z = 0
          · subst hz
            rw [if_neg (by simp)] at hg
            simp only [Prod.mk.injEq] at hg
            obtain ⟨rfl, rfl, rfl⟩ := hg
            exact .inl ⟨rfl, (rdCls n (M - (I + 1)) (l.drop J) (L ++ [o])).2.1, rfl, by omega⟩
          · rw [if_pos hz] at hg
            simp only [Prod.mk.injEq] at hg
            obtain ⟨rfl, rfl, rfl⟩ := hg
            exact .inr ⟨hz, rfl, by omega⟩
        clear hg hr HJ hKb hrd hlen
        go_wp2_with fail
        refine C2.mono ?_; rintro e w2 ⟨vc, rfl, hoc, hb2⟩
        obtain ⟨Ac, cc, rfl, _⟩ := hoc.val
        have hA := bal (Below.refl w2.heap.size w2) (.cells #[.slice A l.length c, .int .i64 (J : Int), .int .i64 z] 102)
        have hG2 := HG.out.nx hb2
        have hG3 := hG2.nx hA
        have hown := hG3.own
        have hs3 := hG3.sz
        have x1 := hG3.f1.1
        have hoc3 := (hoc.old hA).base HG.out.sz
        have hz2 : (w2.alloc (.cells #[.slice A l.length c, .int .i64 (J : Int), .int .i64 z] 102)).heap.size = w2.heap.size + 1 := by simp
        have hob : v.ownBlock ≠ some w2.heap.size := by
          intro e
          have h5 := HG.out.own.lt _ e
          have := hb2.size
          omega
        have t0 : (w2.alloc (.cells #[.slice A l.length c, .int .i64 (J : Int), .int .i64 z] 102)).cell? ⟨w2.heap.size, 0, none⟩ = some (.slice A l.length c) := by go_simp
        have t1 : (w2.alloc (.cells #[.slice A l.length c, .int .i64 (J : Int), .int .i64 z] 102)).cell? ⟨w2.heap.size, 1, none⟩ = some (.int .i64 (J : Int)) := by go_simp
        have t2 : (w2.alloc (.cells #[.slice A l.length c, .int .i64 (J : Int), .int .i64 z] 102)).cell? ⟨w2.heap.size, 2, none⟩ = some (.int .i64 z) := by go_simp
        have T0 := Lib.hid t0
        have T1 := Lib.hid t1
        have T2 := Lib.hid t2
        have hLb : L.length ≤ 3000000000 := by omega
        have hne : w5.heap.size + 1 < w2.heap.size := by have := hG2.sz; omega
        have HG3 := Lib.hid hG3
        have hgB := hG3.gB
        clear C2 hb2 hG2 hG3 hA p0 p1 p2 f0 f1 f2 ps hoc t0 t1 t2 hG HG
        go_wp2_with (first
          | (at_builtin; refine wpC4 rfl (.tmp 52) (.tmp 54) rfl (w5.heap.size + 1 + 1) _ L rfl hown _ o hoc3 (w2.heap.size + 1) hz2 rfl hs3 hLb ?_))
        intro v' w8 ho8 hb8 hfar
        have hG8 := HG3.out.low hb8 ho8
        have y1 := (hb8.cell (p := ⟨w5.heap.size + 1, 1, none⟩) (by simp)).trans HG3.out.f1.1
        have y2 := (hb8.frozen (p := ⟨w5.heap.size + 1, 1, none⟩) (by simp)).trans HG3.out.f1.2
        have n1 : (⟨w5.heap.size + 1, 1, none⟩ : Addr) ≠ ⟨w2.heap.size, 0, none⟩ := by intro e; injection e; omega
        have n2 : (⟨w5.heap.size + 1, 1, none⟩ : Addr) ≠ ⟨w2.heap.size, 1, none⟩ := by intro e; injection e; omega
        have n3 : (⟨w5.heap.size + 1, 1, none⟩ : Addr) ≠ ⟨w2.heap.size, 2, none⟩ := by intro e; injection e; omega
        have s0 := (World.cell?_setCell_other w8 _ _ v' n1).trans ((hfar ⟨w2.heap.size, 0, none⟩ (by simp) hob).trans T0.out)
        have s1 := (World.cell?_setCell_other w8 _ _ v' n2).trans ((hfar ⟨w2.heap.size, 1, none⟩ (by simp) hob).trans T1.out)
        have s2 := (World.cell?_setCell_other w8 _ _ v' n3).trans ((hfar ⟨w2.heap.size, 2, none⟩ (by simp) hob).trans T2.out)
        have x8 : w5.heap.size + 1 < w8.heap.size := by have h7 := hb8.size; simp at h7; omega
        obtain ⟨A2, c2, rfl, _⟩ := ho8.val
        have p0 := hG8.c0.1
        have p1 := hG8.c1.1
        have p2 := hG8.c2.1
        have f0 := hG8.c0.2
        have f1 := hG8.c1.2
        have f2 := hG8.c2.2
        have HG9 := Lib.hid (hG8.put (J : Int) z)
        rw [show (L ++ [o]).length = I + 1 by simp [hL]] at *
        clear hfar ho8 hb8 hown hoc3 HG3 x1 hob hz2 hs3 T0 T1 T2 hG8 n1 n2 n3
        go_wp2
        go_roundw
        case rel => exact ⟨I + 1, J, z, _, L ++ [o], by omega, hJl, by simp [hL], by go_num, HG9.out, HE⟩
        case measure => simp [intOf]; omega
      · obtain rfl : bad = E1 := hE1.symm
        obtain rfl : j = K1 := hK1.symm
        have hbn : (bad == 0) = false := by simpa using hb
        have hbn2 : (bad != 0) = true := by simpa using hb
        have hCE := End_any A l.length c j bad wr
        rw [if_neg (fun h => hb h.1)] at hCE
        have HE : Hid (((N, L'), K, E) = ((0, []), j, bad)) := by show _ = _; rw [HX.out, if_pos hb]
        clear HJ HX hG hb
        go_wp2_with fail
        refine hCE.mono ?_; rintro e w6 ⟨rfl, hb6⟩
        have hG6 := HG.out.nx hb6
        have p0 := hG6.c0.1
        have p1 := hG6.c1.1
        have p2 := hG6.c2.1
        have f0 := hG6.c0.2
        have f1 := hG6.c1.2
        have f2 := hG6.c2.2
        have ps : w5.heap.size < w6.heap.size := by have := hG6.sz; omega
        have hG7 := hG6.put (j : Int) bad
        have s0 := hG7.c0.1
        have s1 := hG7.c1.1
        have s2 := hG7.c2.1
        have g0 := hG7.r0.1
        have g1 := hG7.r1.1
        have g2 := hG7.r0.2
        have g3 := hG7.r1.2
        have ps7 : w.heap.size < (((w6.setCell ⟨w5.heap.size, 0, none⟩ (.slice A l.length c)).setCell ⟨w5.heap.size, 1, none⟩ (.int .i64 (j : Int))).setCell ⟨w5.heap.size, 2, none⟩ (.int .i64 bad)).heap.size := by have := hG7.sz; have := hG7.gB; omega
        have HG7 := Lib.hid hG7
        clear hCE hb6 hG6 hG7 HG
        go_upto_region 14 with fail
        generalize ((w6.setCell ⟨w5.heap.size, 0, none⟩ (.slice A l.length c)).setCell ⟨w5.heap.size, 1, none⟩ (.int .i64 (j : Int))).setCell ⟨w5.heap.size, 2, none⟩ (.int .i64 bad) = w7 at *
        clear p0 p1 p2 f0 f1 f2 ps
        have nw : ∀ o i, (⟨w.heap.size, o, none⟩ : Addr) ≠ ⟨w5.heap.size, i, none⟩ := by intro o i e; injection e; have := HG7.out.gB; omega
        have u1 := (World.cell?_setCell_other _ _ _ (.slice none 0 0) (nw 1 1)).trans ((World.cell?_setCell_other w7 _ _ (.int .i64 0) (nw 0 1)).trans s1)
        have u2 := (World.cell?_setCell_other _ _ _ (.slice none 0 0) (nw 1 2)).trans ((World.cell?_setCell_other w7 _ _ (.int .i64 0) (nw 0 2)).trans s2)
        clear nw
        go_wp2
        go_region
        all_goals go_wp2
        all_goals
          refine bodyPost_ret (v := .tuple #[.agg #[.int .i64 0, .slice none 0 0], .int .i64 (j : Int), .int .i64 bad]) (by simp [results, Tryd.results20, go_sem, *]) rfl ?_
          have hE := HE.out
          simp only [Prod.mk.injEq] at hE
          obtain ⟨⟨rfl, rfl⟩, rfl, rfl⟩ := hE
          exact ⟨none, 0, rfl, fun i hi => absurd hi (by simp), fun _ => rfl, ((HG7.out.bel.setCell (by simp) _).setCell (by simp) _).drew⟩
    · have d0 : decide ((I : Int) < M) = false := decide_eq_false (by omega)
      have d1 : decide (I < M) = false := decide_eq_false hlt
      obtain rfl : I = M := by omega
      rcases HJ.out with ⟨rfl, b, hg, hKb⟩ | ⟨hb, hE1, hK1⟩
      · rw [Nat.sub_self, rdCls] at hg
        simp only [Prod.mk.injEq] at hg
        obtain ⟨rfl, rfl, rfl⟩ := hg
        obtain rfl : j = K1 := by omega
        subst hL
        by_cases hjl : j < l.length
        · have hCE := End_any A l.length c j 0 wr
          rw [if_pos ⟨rfl, hjl⟩] at hCE
          have HE : Hid (((N, L'), K, E) = ((0, []), j, 2)) := by show _ = _; rw [HX.out, if_neg (by simp), if_pos hjl]
          clear HJ HX hG
          go_wp2_with fail
          refine hCE.mono ?_; rintro e w6 ⟨rfl, hb6⟩
          have hG6 := HG.out.nx hb6
          have p0 := hG6.c0.1
          have p1 := hG6.c1.1
          have p2 := hG6.c2.1
          have f0 := hG6.c0.2
          have f1 := hG6.c1.2
          have f2 := hG6.c2.2
          have ps : w5.heap.size < w6.heap.size := by have := hG6.sz; omega
          have hG7 := hG6.put (j : Int) 2
          have s0 := hG7.c0.1
          have s1 := hG7.c1.1
          have s2 := hG7.c2.1
          have g0 := hG7.r0.1
          have g1 := hG7.r1.1
          have g2 := hG7.r0.2
          have g3 := hG7.r1.2
          have ps7 : w.heap.size < (((w6.setCell ⟨w5.heap.size, 0, none⟩ (.slice A l.length c)).setCell ⟨w5.heap.size, 1, none⟩ (.int .i64 (j : Int))).setCell ⟨w5.heap.size, 2, none⟩ (.int .i64 2)).heap.size := by have := hG7.sz; have := hG7.gB; omega
          have HG7 := Lib.hid hG7
          clear hCE hb6 hG6 hG7 HG
          go_upto_region 14 with fail
          generalize ((w6.setCell ⟨w5.heap.size, 0, none⟩ (.slice A l.length c)).setCell ⟨w5.heap.size, 1, none⟩ (.int .i64 (j : Int))).setCell ⟨w5.heap.size, 2, none⟩ (.int .i64 2) = w7 at *
          clear p0 p1 p2 f0 f1 f2 ps
          have nw : ∀ o i, (⟨w.heap.size, o, none⟩ : Addr) ≠ ⟨w5.heap.size, i, none⟩ := by intro o i e; injection e; have := HG7.out.gB; omega
          have u1 := (World.cell?_setCell_other _ _ _ (.slice none 0 0) (nw 1 1)).trans ((World.cell?_setCell_other w7 _ _ (.int .i64 0) (nw 0 1)).trans s1)
          have u2 := (World.cell?_setCell_other _ _ _ (.slice none 0 0) (nw 1 2)).trans ((World.cell?_setCell_other w7 _ _ (.int .i64 0) (nw 0 2)).trans s2)
          clear nw
          go_wp2
          go_region
          all_goals go_wp2
          all_goals
            refine bodyPost_ret (v := .tuple #[.agg #[.int .i64 0, .slice none 0 0], .int .i64 (j : Int), .int .i64 2]) (by simp [results, Tryd.results20, go_sem, *]) rfl ?_
            have hE := HE.out
            simp only [Prod.mk.injEq] at hE
            obtain ⟨⟨rfl, rfl⟩, rfl, rfl⟩ := hE
            exact ⟨none, 0, rfl, fun i hi => absurd hi (by simp), fun _ => rfl, ((HG7.out.bel.setCell (by simp) _).setCell (by simp) _).drew⟩
        · have hCE := End_any A l.length c j 0 wr
          rw [if_neg (fun h => hjl h.2)] at hCE
          have HE : Hid (((N, L'), K, E) = ((n, L), j, 0)) := by show _ = _; rw [HX.out, if_neg (by simp), if_neg hjl]
          clear HJ HX hG
          go_wp2_with fail
          refine hCE.mono ?_; rintro e w6 ⟨rfl, hb6⟩
          have hG6 := HG.out.nx hb6
          have p0 := hG6.c0.1
          have p1 := hG6.c1.1
          have p2 := hG6.c2.1
          have f0 := hG6.c0.2
          have f1 := hG6.c1.2
          have f2 := hG6.c2.2
          have ps : w5.heap.size < w6.heap.size := by have := hG6.sz; omega
          have hG7 := hG6.put (j : Int) 0
          have s0 := hG7.c0.1
          have s1 := hG7.c1.1
          have s2 := hG7.c2.1
          have g0 := hG7.r0.1
          have g1 := hG7.r1.1
          have g2 := hG7.r0.2
          have g3 := hG7.r1.2
          have v0 := hG7.f0.1
          have v1 := hG7.f1.1
          have ps7 : w.heap.size < (((w6.setCell ⟨w5.heap.size, 0, none⟩ (.slice A l.length c)).setCell ⟨w5.heap.size, 1, none⟩ (.int .i64 (j : Int))).setCell ⟨w5.heap.size, 2, none⟩ (.int .i64 0)).heap.size := by have := hG7.sz; have := hG7.gB; omega
          have HG7 := Lib.hid hG7
          obtain ⟨A2, c2, rfl, _⟩ := hG7.own.val
          clear hCE hb6 hG6 hG7 HG
          go_upto_region 14 with fail
          generalize ((w6.setCell ⟨w5.heap.size, 0, none⟩ (.slice A l.length c)).setCell ⟨w5.heap.size, 1, none⟩ (.int .i64 (j : Int))).setCell ⟨w5.heap.size, 2, none⟩ (.int .i64 0) = w7 at *
          clear p0 p1 p2 f0 f1 f2 ps
          have nw : ∀ o i, (⟨w.heap.size, o, none⟩ : Addr) ≠ ⟨w5.heap.size, i, none⟩ := by intro o i e; injection e; have := HG7.out.gB; omega
          have u1 := (World.cell?_setCell_other _ _ _ (.slice A2 L.length c2) (nw 1 1)).trans ((World.cell?_setCell_other w7 _ _ (.int .i64 n) (nw 0 1)).trans s1)
          have u2 := (World.cell?_setCell_other _ _ _ (.slice A2 L.length c2) (nw 1 2)).trans ((World.cell?_setCell_other w7 _ _ (.int .i64 n) (nw 0 2)).trans s2)
          clear nw
          go_wp2
          go_region
          all_goals go_wp2
          all_goals
            refine bodyPost_ret (v := .tuple #[.agg #[.int .i64 n, .slice A2 L.length c2], .int .i64 (j : Int), .int .i64 0]) (by simp [results, Tryd.results20, go_sem, *]) rfl ?_
            have hE := HE.out
            simp only [Prod.mk.injEq] at hE
            obtain ⟨⟨rfl, rfl⟩, rfl, rfl⟩ := hE
            have ho := ((HG7.out.own.set (a := ⟨w.heap.size, 0, none⟩) (by have := HG7.out.gB; simp; omega) (.int .i64 N)).set (a := ⟨w.heap.size, 1, none⟩) (by have := HG7.out.gB; simp; omega) (.slice A2 L'.length c2)).kept (Below.refl _ _).drew
            obtain ⟨A3, c3, hv3, hr3, hA3⟩ := ho.val
            injection hv3 with e1 e2 e3
            subst e1 e3
            exact ⟨A2, c2, rfl, hr3, hA3, ((HG7.out.bel.setCell (by simp) _).setCell (by simp) _).drew⟩
      · obtain rfl : bad = E1 := hE1.symm
        obtain rfl : j = K1 := hK1.symm
        have hbn : (bad == 0) = false := by simpa using hb
        have hbn2 : (bad != 0) = true := by simpa using hb
        have hCE := End_any A l.length c j bad wr
        rw [if_neg (fun h => hb h.1)] at hCE
        have HE : Hid (((N, L'), K, E) = ((0, []), j, bad)) := by show _ = _; rw [HX.out, if_pos hb]
        clear HJ HX hG hb
        go_wp2_with fail
        refine hCE.mono ?_; rintro e w6 ⟨rfl, hb6⟩
        have hG6 := HG.out.nx hb6
        have p0 := hG6.c0.1
        have p1 := hG6.c1.1
        have p2 := hG6.c2.1
        have f0 := hG6.c0.2
        have f1 := hG6.c1.2
        have f2 := hG6.c2.2
        have ps : w5.heap.size < w6.heap.size := by have := hG6.sz; omega
        have hG7 := hG6.put (j : Int) bad
        have s0 := hG7.c0.1
        have s1 := hG7.c1.1
        have s2 := hG7.c2.1
        have g0 := hG7.r0.1
        have g1 := hG7.r1.1
        have g2 := hG7.r0.2
        have g3 := hG7.r1.2
        have ps7 : w.heap.size < (((w6.setCell ⟨w5.heap.size, 0, none⟩ (.slice A l.length c)).setCell ⟨w5.heap.size, 1, none⟩ (.int .i64 (j : Int))).setCell ⟨w5.heap.size, 2, none⟩ (.int .i64 bad)).heap.size := by have := hG7.sz; have := hG7.gB; omega
        have HG7 := Lib.hid hG7
        clear hCE hb6 hG6 hG7 HG
        go_upto_region 14 with fail
        generalize ((w6.setCell ⟨w5.heap.size, 0, none⟩ (.slice A l.length c)).setCell ⟨w5.heap.size, 1, none⟩ (.int .i64 (j : Int))).setCell ⟨w5.heap.size, 2, none⟩ (.int .i64 bad) = w7 at *
        clear p0 p1 p2 f0 f1 f2 ps
        have nw : ∀ o i, (⟨w.heap.size, o, none⟩ : Addr) ≠ ⟨w5.heap.size, i, none⟩ := by intro o i e; injection e; have := HG7.out.gB; omega
        have u1 := (World.cell?_setCell_other _ _ _ (.slice none 0 0) (nw 1 1)).trans ((World.cell?_setCell_other w7 _ _ (.int .i64 0) (nw 0 1)).trans s1)
        have u2 := (World.cell?_setCell_other _ _ _ (.slice none 0 0) (nw 1 2)).trans ((World.cell?_setCell_other w7 _ _ (.int .i64 0) (nw 0 2)).trans s2)
        clear nw
        go_wp2
        go_region
        all_goals go_wp2
        all_goals
          refine bodyPost_ret (v := .tuple #[.agg #[.int .i64 0, .slice none 0 0], .int .i64 (j : Int), .int .i64 bad]) (by simp [results, Tryd.results20, go_sem, *]) rfl ?_
          have hE := HE.out
          simp only [Prod.mk.injEq] at hE
          obtain ⟨⟨rfl, rfl⟩, rfl, rfl⟩ := hE
          exact ⟨none, 0, rfl, fun i hi => absurd hi (by simp), fun _ => rfl, ((HG7.out.bel.setCell (by simp) _).setCell (by simp) _).drew⟩
end Go.Proofs.YtplcabecbofjpaaDoor
