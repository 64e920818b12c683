/-
  cnf.Parse over the translated program.
-/
import Derived.Test.YtplcabecbofjpaaDoorProg
import Derived.WalkKit
import Derived.WalkSpells
import Derived.WalkLawsBesides
import Derived.Lib.Hide
import Derived.BigQuiet
import Derived.Deep.QuietTactic
import Derived.Deep.RegionWith
import Derived.Deep.RegionHeld3
import Derived.Test.YtplcabecbofjpaaDoorS10
set_option linter.unusedVariables false
namespace Go.Proofs.YtplcabecbofjpaaDoor
open Go.RowKit
/-- What a call tells that parses a formula. -/
def RetP (w0 : World) (N : Int) (L : List (List Int)) (K : Nat) (E : Int) (e : Ending) (w' : World) : Prop :=
  ∃ A c, e = .returned (.tuple #[.agg #[.int .i64 N, .slice A L.length c], .int .i64 ((K : Nat) : Int), .int .i64 E]) ∧ RC w' w'.heap.size A L ∧ (A = none → c = 0) ∧ Below w0.heap.size w0 w'
set_option maxHeartbeats 400000 in
theorem Wrong_any (k e : Int) (w : World) : Calls Tryd.prog 52 #[.int .i64 k, .int .i64 e] w (RetV w (.tuple #[.agg #[.int .i64 0, .slice none 0 0], .int .i64 k, .int .i64 e])) := by
  go_enter Tryd.func52, Tryd.ntmps52
  go_wp2
  exact bodyPost_ret (by simp [results, Tryd.results52, go_sem]) rfl ⟨rfl, bal (Below.refl _ _) _⟩
/-- The world of cnf.Parse. -/
structure PW (w wr : World) (n : Int) (v : Value) (L : List (List Int)) : Prop where
  bel : Below w.heap.size w wr
  sz : w.heap.size + 1 + 1 ≤ wr.heap.size
  r0 : wr.cell? ⟨w.heap.size, 0, none⟩ = some (.int .i64 0) ∧ wr.frozen? ⟨w.heap.size, 0, none⟩ = false
  r1 : wr.cell? ⟨w.heap.size, 1, none⟩ = some (.slice none 0 0) ∧ wr.frozen? ⟨w.heap.size, 1, none⟩ = false
  f0 : wr.cell? ⟨w.heap.size + 1, 0, none⟩ = some (.int .i64 n) ∧ wr.frozen? ⟨w.heap.size + 1, 0, none⟩ = false
  f1 : wr.cell? ⟨w.heap.size + 1, 1, none⟩ = some v ∧ wr.frozen? ⟨w.heap.size + 1, 1, none⟩ = false
  own : OwnC wr (w.heap.size + 1 + 1) v L
theorem PW.first (w : World) (n : Int) : PW w ((w.alloc (.cells #[.int .i64 0, .slice none 0 0] 24)).alloc (.cells #[.int .i64 n, .slice none 0 0] 24)) n (.slice none 0 0) [] := by
  refine ⟨bal (bal (Below.refl _ _) _) _, by simp, ⟨?_, ?_⟩, ⟨?_, ?_⟩, ⟨?_, ?_⟩, ⟨?_, ?_⟩, OwnC.nil _ _⟩ <;> go_simp
theorem PW.low {w wr w1 : World} {n : Int} {v v1 : Value} {L L1 : List (List Int)} (h : PW w wr n v L) (hb : Below (w.heap.size + 1 + 1) wr w1) (ho : OwnC w1 (w.heap.size + 1 + 1) v1 L1) : PW w (w1.setCell ⟨w.heap.size + 1, 1, none⟩ v1) n v1 L1 := by
  have c0 := fun (o : Nat) => hb.cell (p := ⟨w.heap.size, o, none⟩) (by simp; omega)
  have d0 := fun (o : Nat) => hb.frozen (p := ⟨w.heap.size, o, none⟩) (by simp; omega)
  have c1 := fun (o : Nat) => hb.cell (p := ⟨w.heap.size + 1, o, none⟩) (by simp)
  have d1 := fun (o : Nat) => hb.frozen (p := ⟨w.heap.size + 1, o, none⟩) (by simp)
  refine ⟨(h.bel.trans (hb.mono (by omega))).setCell (by simp) _, by have := hb.size; have := h.sz; simp; omega, ⟨?_, ?_⟩, ⟨?_, ?_⟩, ⟨?_, ?_⟩, ⟨?_, ?_⟩, ho.set (by simp) _⟩
  · rw [World.cell?_setCell_other _ _ _ _ (by simp), c0]; exact h.r0.1
  · simpa using (d0 0).trans h.r0.2
  · rw [World.cell?_setCell_other _ _ _ _ (by simp), c0]; exact h.r1.1
  · simpa using (d0 1).trans h.r1.2
  · rw [World.cell?_setCell_other _ _ _ _ (by simp), c1]; exact h.f0.1
  · simpa using (d1 0).trans h.f0.2
  · exact World.cell?_setCell_same _ _ _ ((c1 1).trans h.f1.1)
  · simpa using (d1 1).trans h.f1.2
theorem PW.nx {w wr w1 : World} {n : Int} {v : Value} {L : List (List Int)} (h : PW w wr n v L) (hb : Below wr.heap.size wr w1) : PW w w1 n v L := by
  have hs := h.sz
  have c0 := fun (o : Nat) => hb.cell (p := ⟨w.heap.size, o, none⟩) (by simp; omega)
  have d0 := fun (o : Nat) => hb.frozen (p := ⟨w.heap.size, o, none⟩) (by simp; omega)
  have c1 := fun (o : Nat) => hb.cell (p := ⟨w.heap.size + 1, o, none⟩) (by simp; omega)
  have d1 := fun (o : Nat) => hb.frozen (p := ⟨w.heap.size + 1, o, none⟩) (by simp; omega)
  exact ⟨h.bel.trans (hb.mono (by omega)), by have := hb.size; omega, ⟨(c0 0).trans h.r0.1, (d0 0).trans h.r0.2⟩, ⟨(c0 1).trans h.r1.1, (d0 1).trans h.r1.2⟩, ⟨(c1 0).trans h.f0.1, (d1 0).trans h.f0.2⟩, ⟨(c1 1).trans h.f1.1, (d1 1).trans h.f1.2⟩, h.own.kept hb⟩
set_option maxHeartbeats 800000 in
theorem Parse_long (A : Option Addr) (c n : Nat) (w : World) (h : 100000 < n) (hn : n ≤ maxLen) :
    Calls Tryd.prog 19 #[.slice A n c] w (RetP w 0 [] 0 3) := by
  unfold maxLen at hn
  have hd : decide ((100000 : Int) < n) = true := decide_eq_true (by omega)
  have C := Wrong_any 0 3 (w.alloc (.cells #[.int .i64 0, .slice none 0 0] 24))
  have HB := Lib.hid (bal (Below.refl w.heap.size w) (.cells #[.int .i64 0, .slice none 0 0] 24))
  have hs : w.heap.size < (w.alloc (.cells #[.int .i64 0, .slice none 0 0] 24)).heap.size := by simp
  have q0 : (w.alloc (.cells #[.int .i64 0, .slice none 0 0] 24)).cell? ⟨w.heap.size, 0, none⟩ = some (.int .i64 0) := by go_simp
  have q1 : (w.alloc (.cells #[.int .i64 0, .slice none 0 0] 24)).cell? ⟨w.heap.size, 1, none⟩ = some (.slice none 0 0) := by go_simp
  have q2 : (w.alloc (.cells #[.int .i64 0, .slice none 0 0] 24)).frozen? ⟨w.heap.size, 0, none⟩ = false := by go_simp
  have q3 : (w.alloc (.cells #[.int .i64 0, .slice none 0 0] 24)).frozen? ⟨w.heap.size, 1, none⟩ = false := by go_simp
  generalize hw1 : w.alloc (.cells #[.int .i64 0, .slice none 0 0] 24) = w1 at *
  have HW1 := Lib.hid hw1
  clear hw1 h
  go_enter Tryd.func19, Tryd.ntmps19
  go_wp2_with fail
  rw [HW1.out]
  refine C.mono ?_; rintro e w2 ⟨rfl, hb⟩
  have p0 := (hb.cell (p := ⟨w.heap.size, 0, none⟩) hs).trans q0
  have p1 := (hb.cell (p := ⟨w.heap.size, 1, none⟩) hs).trans q1
  have p2 := (hb.frozen (p := ⟨w.heap.size, 0, none⟩) hs).trans q2
  have p3 := (hb.frozen (p := ⟨w.heap.size, 1, none⟩) hs).trans q3
  have hB := bnx HB.out hb
  have ps : w.heap.size < w2.heap.size := by have := hb.size; omega
  clear C hb HB q0 q1 q2 q3 hs
  go_wp2
  refine bodyPost_ret (v := .tuple #[.agg #[.int .i64 0, .slice none 0 0], .int .i64 0, .int .i64 3]) (by simp [results, Tryd.results19, go_sem, p0, p1]) rfl ⟨none, 0, rfl, fun i hi => absurd hi (by simp), fun _ => rfl, (hB.setCell (by simp) _).setCell (by simp) _⟩
theorem parse_he {l : List UInt8} {n q : Int} {k : Nat} {e : Int} (h : l.length ≤ 100000) (hh : rdHead l = (n, q, k, e)) (he : e ≠ 0) : parseS l = ((0, []), k, e) := by
  unfold parseS; rw [if_neg (by omega), hh, if_pos he]
theorem parse_ce {l : List UInt8} {n q : Int} {k a : Nat} {R : List (List Int)} {E : Int} (h : l.length ≤ 100000) (hh : rdHead l = (n, q, k, 0)) (hr : rdCls n q.toNat (l.drop k) [] = (R, a, E)) (he : E ≠ 0) : parseS l = ((0, []), k + a, E) := by
  unfold parseS; rw [if_neg (by omega), hh, if_neg (by simp)]; simp only; rw [hr, if_pos he]
theorem parse_en {l : List UInt8} {n q : Int} {k a : Nat} {R : List (List Int)} (h : l.length ≤ 100000) (hh : rdHead l = (n, q, k, 0)) (hr : rdCls n q.toNat (l.drop k) [] = (R, a, 0)) (he : k + a < l.length) : parseS l = ((0, []), k + a, 2) := by
  unfold parseS; rw [if_neg (by omega), hh, if_neg (by simp)]; simp only; rw [hr, if_neg (by simp), if_pos he]
theorem parse_ok {l : List UInt8} {n q : Int} {k a : Nat} {R : List (List Int)} (h : l.length ≤ 100000) (hh : rdHead l = (n, q, k, 0)) (hr : rdCls n q.toNat (l.drop k) [] = (R, a, 0)) (he : ¬ k + a < l.length) : parseS l = ((n, R), k + a, 0) := by
  unfold parseS; rw [if_neg (by omega), hh, if_neg (by simp)]; simp only; rw [hr, if_neg (by simp), if_neg he]
set_option maxHeartbeats 3200000 in
set_option maxRecDepth 100000 in
theorem Parse_in (A : Option Addr) (c : Nat) (l : List UInt8) (w : World) (h : Rd w w.heap.size A l) (hn : l.length ≤ c) (hc : c ≤ maxLen) (hl : l.length ≤ 100000) :
    Calls Tryd.prog 19 #[.slice A l.length c] w (RetP w (parseS l).1.1 (parseS l).1.2 (parseS l).2.1 (parseS l).2.2) := by
  have hd : decide ((100000 : Int) < l.length) = false := decide_eq_false (by omega)
  have hbd := rdHead_bd l
  have hB0 := bal (Below.refl w.heap.size w) (.cells #[.int .i64 0, .slice none 0 0] 24)
  have C := readHead_any A c l w.heap.size _ (h.below hB0) hn hc
  obtain ⟨⟨n, q, k, e⟩, hh⟩ : ∃ r, rdHead l = r := ⟨_, rfl⟩
  rw [hh] at hbd C
  simp only [resH] at hbd C
  obtain ⟨n0, n1, q0, q1, k1, e0, e1⟩ := hbd
  have HH := Lib.hid hh
  have HC := Lib.hid hc
  have HR := Lib.hid h
  clear hh hc h
  by_cases he : e = 0
  · subst he
    obtain ⟨M, rfl⟩ := Int.eq_ofNat_of_zero_le q0
    obtain ⟨R, a, E, hr⟩ : ∃ R a E, rdCls n M (l.drop k) [] = (R, a, E) := ⟨_, _, _, rfl⟩
    have HS : Hid (∃ b, rdCls n (M - 0) (l.drop k) [] = (R, b, E) ∧ k + b = k + a) := ⟨a, hr, rfl⟩
    have HX : Hid (parseS l = if E ≠ 0 then ((0, []), k + a, E) else if k + a < l.length then ((0, []), k + a, 2) else ((n, R), k + a, 0)) := by
      show _ = _
      split
      · rename_i hE; exact parse_ce hl HH.out hr hE
      · rename_i hE
        have : E = 0 := by simpa using hE
        subst this
        split
        · rename_i h2; exact parse_en hl HH.out hr h2
        · rename_i h2; exact parse_ok hl HH.out hr h2
    have F0 := Lib.hid (PW.first w n)
    generalize k + a = K at *
    clear hr q0
    go_enter Tryd.func19, Tryd.ntmps19
    go_wp2_with fail
    refine C.mono ?_; rintro e w' ⟨rfl, rfl⟩
    clear C hB0
    go_wp2
    go_loopw [8, 41] (fun p i wr => ∃ (I j : Nat) (v : Value) (L : List (List Int)), I ≤ M ∧ j ≤ l.length ∧ L.length = I ∧ p = .int .i64 j ∧ i = .int .i64 I ∧ PW w wr n v L ∧ Hid (∃ b, rdCls n (M - I) (l.drop j) L = (R, b, E) ∧ j + b = K)) (fun _ i _ => M - (intOf i).toNat)
    case atStart => exact ⟨0, k, _, [], Nat.zero_le _, k1, rfl, rfl, rfl, F0.out, HS⟩
    case round =>
      obtain ⟨I, j, v, L, hI, hj, hL, rfl, rfl, hP, HJ⟩ := hrel
      clear F0 HS
      by_cases hlt : I < M
      · have c1 := readClause_any A c j l n wr ((HR.out.below hP.bel).mono hP.bel.size) hj hn HC.out
        have hlen := rdCl_len n l.length (l.drop j) [] (by simp)
        rw [List.length_drop] at hlen
        have hm := HJ.out
        rw [show M - I = (M - (I + 1)) + 1 by omega, rdCls] at hm
        simp only [List.drop_drop] at hm
        obtain ⟨⟨o, m, e⟩, hr⟩ : ∃ r, rdCl n (l.drop j) [] = r := ⟨_, rfl⟩
        rw [hr] at c1 hlen hm
        clear hr HJ
        simp only at c1 hlen hm
        obtain ⟨J, hJ⟩ : ∃ J, j + m = J := ⟨_, rfl⟩
        rw [hJ] at c1 hm
        have hJl : J ≤ l.length := by omega
        have HP := Lib.hid hP
        clear hP
        by_cases he : e = 0
        · subst he
          rw [if_pos rfl] at c1
          rw [if_neg (by simp)] at hm
          have HE : Hid (∃ b, rdCls n (M - (I + 1)) (l.drop J) (L ++ [o]) = (R, b, E) ∧ J + b = K) := by
            obtain ⟨m0, h1, h2⟩ := hm
            simp only [Prod.mk.injEq] at h1
            obtain ⟨rfl, rfl, rfl⟩ := h1
            exact ⟨(rdCls n (M - (I + 1)) (l.drop J) (L ++ [o])).2.1, rfl, by omega⟩
          clear hm HX
          go_wp2_with fail
          refine c1.mono ?_; rintro e w1 ⟨vc, rfl, hoc, hb1⟩
          have hP1 := HP.out.nx hb1
          have hsz := HP.out.sz
          have hoc1 := hoc.base hsz
          have hs1 := hP1.sz
          have p0 := hP1.f1.1
          obtain ⟨Ac, cc, rfl, _⟩ := hoc.val
          have hown := hP1.own
          have hLb : L.length ≤ 3000000000 := by omega
          have x4 : w.heap.size + 1 < w1.heap.size := by omega
          have HP1 := Lib.hid hP1
          clear c1 HP hoc hb1 hP1
          go_wp2_with (first
            | (at_builtin; refine wpC1 rfl (.tmp 61) (.tmp 63) rfl (w.heap.size + 1 + 1) _ L rfl hown _ o hoc1 rfl hs1 hLb ?_))
          intro v' w2 ho2 hb2
          have hP2 := HP1.out.low hb2 ho2
          have f1 := (hb2.cell (p := ⟨w.heap.size + 1, 1, none⟩) (by simp)).trans HP1.out.f1.1
          have f2 := (hb2.frozen (p := ⟨w.heap.size + 1, 1, none⟩) (by simp)).trans HP1.out.f1.2
          have x5 : w.heap.size + 1 < w2.heap.size := by have := hb2.size; omega
          obtain ⟨A2, c2, rfl, _⟩ := ho2.val
          rw [show (L ++ [o]).length = I + 1 by simp [hL]] at hP2 ⊢
          have HP2 := Lib.hid hP2
          clear HP1 ho2 hb2 hown hoc1 p0 hP2
          go_wp2
          go_roundw
          case rel => exact ⟨I + 1, J, _, L ++ [o], by omega, hJl, by simp [hL], rfl, by go_num, HP2.out, HE⟩
          case measure => simp [intOf]; omega
        · have heb : (e != 0) = true := by simp [he]
          rw [if_neg he] at c1
          rw [if_pos he] at hm
          have HE : Hid (parseS l = ((0, []), J, e)) := by
            show _ = _
            obtain ⟨m0, h1, h2⟩ := hm
            simp only [Prod.mk.injEq] at h1
            obtain ⟨rfl, rfl, rfl⟩ := h1
            rw [HX.out, if_pos he]
            congr 2; omega
          clear hm HX he hJ
          go_wp2_with fail
          refine c1.mono ?_; rintro e w1 ⟨vc, rfl, hoc, hb1⟩
          have hP1 := HP.out.nx hb1
          obtain ⟨Ac, cc, rfl, _⟩ := hoc.val
          have C2 := Wrong_any (J : Int) e w1
          have HP1 := Lib.hid hP1
          clear c1 HP hoc hb1 hP1
          go_wp2_with fail
          refine C2.mono ?_; rintro e w2 ⟨rfl, hb2⟩
          have hP2 := HP1.out.nx hb2
          obtain ⟨p0, p2⟩ := hP2.r0
          obtain ⟨p1, p3⟩ := hP2.r1
          have hB := hP2.bel
          have ps : w.heap.size < w2.heap.size := by have := hP2.sz; omega
          clear C2 HP1 hb2 hP2
          go_wp2
          refine bodyPost_ret (v := .tuple #[.agg #[.int .i64 0, .slice none 0 0], .int .i64 (J : Int), .int .i64 e]) (by simp [results, Tryd.results19, go_sem, p0, p1]) rfl ?_
          rw [HE.out]
          exact ⟨none, 0, rfl, fun i hi => absurd hi (by simp), fun _ => rfl, (hB.setCell (by simp) _).setCell (by simp) _⟩
      · obtain rfl : I = M := by omega
        have hm := HJ.out
        rw [Nat.sub_self, rdCls] at hm
        have hm2 : R = L ∧ E = 0 ∧ j = K := by
          obtain ⟨m0, h1, h2⟩ := hm
          simp only [Prod.mk.injEq] at h1
          obtain ⟨rfl, rfl, rfl⟩ := h1
          exact ⟨rfl, rfl, by omega⟩
        obtain ⟨rfl, rfl, rfl⟩ := hm2
        subst hL
        have hX := HX.out
        rw [if_neg (by simp)] at hX
        have HP := Lib.hid hP
        clear hm HJ HX
        by_cases hjl : j < l.length
        · rw [if_pos hjl] at hX
          have HE := Lib.hid hX
          have C2 := Wrong_any (j : Int) 2 wr
          clear hX hP
          go_wp2_with fail
          refine C2.mono ?_; rintro e w2 ⟨rfl, hb2⟩
          have hP2 := HP.out.nx hb2
          obtain ⟨p0, p2⟩ := hP2.r0
          obtain ⟨p1, p3⟩ := hP2.r1
          have hB := hP2.bel
          have ps : w.heap.size < w2.heap.size := by have := hP2.sz; omega
          clear C2 HP hb2 hP2
          go_wp2
          refine bodyPost_ret (v := .tuple #[.agg #[.int .i64 0, .slice none 0 0], .int .i64 (j : Int), .int .i64 2]) (by simp [results, Tryd.results19, go_sem, p0, p1]) rfl ?_
          rw [HE.out]
          exact ⟨none, 0, rfl, fun i hi => absurd hi (by simp), fun _ => rfl, (hB.setCell (by simp) _).setCell (by simp) _⟩
        · rw [if_neg hjl] at hX
          have HE := Lib.hid hX
          obtain ⟨p0, p2⟩ := hP.r0
          obtain ⟨p1, p3⟩ := hP.r1
          have f0 := hP.f0.1
          have f1 := hP.f1.1
          have ps : w.heap.size < wr.heap.size := by have := hP.sz; omega
          have ps1 : w.heap.size + 1 < wr.heap.size := by have := hP.sz; omega
          obtain ⟨A2, c2, rfl, _⟩ := hP.own.val
          clear hX hP
          go_wp2
          refine bodyPost_ret (v := .tuple #[.agg #[.int .i64 n, .slice A2 R.length c2], .int .i64 (j : Int), .int .i64 0]) (by simp [results, Tryd.results19, go_sem, p0, p1]) rfl ?_
          rw [HE.out]
          have ho := (HP.out.own.set (a := ⟨w.heap.size, 0, none⟩) (by simp; omega) (.int .i64 n)).set (a := ⟨w.heap.size, 1, none⟩) (by simp; omega) (.slice A2 R.length c2)
          obtain ⟨A3, c3, hv3, hr3, hA3⟩ := ho.val
          injection hv3 with e1 e2 e3
          subst e1 e3
          exact ⟨A2, c2, rfl, hr3, hA3, (HP.out.bel.setCell (by simp) _).setCell (by simp) _⟩
  · have heb : (e != 0) = true := by simp [he]
    have HE : Hid (parseS l = ((0, []), k, e)) := parse_he hl HH.out he
    have hs : w.heap.size < (w.alloc (.cells #[.int .i64 0, .slice none 0 0] 24)).heap.size := by simp
    have q0 : (w.alloc (.cells #[.int .i64 0, .slice none 0 0] 24)).cell? ⟨w.heap.size, 0, none⟩ = some (.int .i64 0) := by go_simp
    have q1 : (w.alloc (.cells #[.int .i64 0, .slice none 0 0] 24)).cell? ⟨w.heap.size, 1, none⟩ = some (.slice none 0 0) := by go_simp
    have q2 : (w.alloc (.cells #[.int .i64 0, .slice none 0 0] 24)).frozen? ⟨w.heap.size, 0, none⟩ = false := by go_simp
    have q3 : (w.alloc (.cells #[.int .i64 0, .slice none 0 0] 24)).frozen? ⟨w.heap.size, 1, none⟩ = false := by go_simp
    have C2 := Wrong_any (k : Int) e (w.alloc (.cells #[.int .i64 0, .slice none 0 0] 24))
    have HB := Lib.hid hB0
    generalize hw1 : w.alloc (.cells #[.int .i64 0, .slice none 0 0] 24) = w1 at *
    have HW1 := Lib.hid hw1
    clear hw1 he hB0
    go_enter Tryd.func19, Tryd.ntmps19
    go_wp2_with fail
    rw [HW1.out]
    refine C.mono ?_; rintro e w' ⟨rfl, rfl⟩
    clear C
    go_wp2_with fail
    refine C2.mono ?_; rintro e w2 ⟨rfl, hb⟩
    have p0 := (hb.cell (p := ⟨w.heap.size, 0, none⟩) hs).trans q0
    have p1 := (hb.cell (p := ⟨w.heap.size, 1, none⟩) hs).trans q1
    have p2 := (hb.frozen (p := ⟨w.heap.size, 0, none⟩) hs).trans q2
    have p3 := (hb.frozen (p := ⟨w.heap.size, 1, none⟩) hs).trans q3
    have hB := bnx HB.out hb
    have ps : w.heap.size < w2.heap.size := by have := hb.size; omega
    clear C2 hb HB q0 q1 q2 q3 hs
    go_wp2
    refine bodyPost_ret (v := .tuple #[.agg #[.int .i64 0, .slice none 0 0], .int .i64 (k : Int), .int .i64 e]) (by simp [results, Tryd.results19, go_sem, p0, p1]) rfl ?_
    rw [HE.out]
    exact ⟨none, 0, rfl, fun i hi => absurd hi (by simp), fun _ => rfl, (hB.setCell (by simp) _).setCell (by simp) _⟩
theorem Parse_any (A : Option Addr) (c : Nat) (l : List UInt8) (w : World) (h : Rd w w.heap.size A l) (hn : l.length ≤ c) (hc : c ≤ maxLen) :
    Calls Tryd.prog 19 #[.slice A l.length c] w (RetP w (parseS l).1.1 (parseS l).1.2 (parseS l).2.1 (parseS l).2.2) := by
  by_cases hl : l.length ≤ 100000
  · exact Parse_in A c l w h hn hc hl
  · have e : parseS l = ((0, []), 0, 3) := by unfold parseS; rw [if_pos (by omega)]
    rw [e]
    exact Parse_long A c l.length w (by omega) (by omega)
end Go.Proofs.YtplcabecbofjpaaDoor
