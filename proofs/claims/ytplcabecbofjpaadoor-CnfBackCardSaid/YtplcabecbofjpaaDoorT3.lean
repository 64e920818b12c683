/-
  The reference's Ints, Flags and Same over the translated program.
-/
import Derived.Test.YtplcabecbofjpaaDoorProg
import Derived.WalkKit
import Derived.WalkSpells
import Derived.WalkLawsBesides
import Derived.Lib.Hide
import Derived.BigQuiet
import Derived.Deep.QuietTactic
import Derived.Deep.RegionWith
import Derived.Deep.RegionHeld3
import Derived.Test.YtplcabecbofjpaaDoorT2
set_option linter.unusedVariables false
namespace Go.Proofs.YtplcabecbofjpaaDoor
open Go.RowKit
set_option maxHeartbeats 800000 in
theorem Ints_q (A A' : Option Addr) (c c' : Nat) (l l' : List Int) (w : World) (h : RI w w.heap.size A l) (h' : RI w w.heap.size A' l') (hn : l.length ≤ maxLen) (hn' : l'.length ≤ maxLen) :
    Calls Tryd.prog 63 #[.slice A l.length c, .slice A' l'.length c'] w fun e w' => e = .returned (.bool (l == l')) ∧ ∃ n, w' = w.drewN n := by
  unfold maxLen at hn hn'
  by_cases hl : l.length = l'.length
  · have hne : ((l.length : Int) != (l'.length : Int)) = false := by simp [hl]
    obtain ⟨T, hT⟩ : ∃ T, (l == l') = T := ⟨_, rfl⟩
    rw [hT]
    have HT : Hid ((l == l') = T) := hT
    clear hT
    have HL := Lib.hid hl
    clear hl
    go_enter Tryd.func63, Tryd.ntmps63
    go_wp2
    go_loopw [5] (fun i wr => ∃ (j q : Nat), j ≤ l.length ∧ i = .int .i64 j ∧ wr = w.drewN q ∧ Hid ((l.drop j == l'.drop j) = T)) (fun i _ => l.length - (intOf i).toNat)
    case atStart => exact ⟨0, 0, Nat.zero_le _, rfl, rfl, HT⟩
    case round =>
      obtain ⟨j, q, hj, rfl, rfl, HJ⟩ := hrel
      by_cases hlt : j < l.length
      · obtain ⟨a1, rfl, _, hc1⟩ := h j hlt
        obtain ⟨a2, rfl, _, hc2⟩ := h' j (by rw [← HL.out]; exact hlt)
        have hlt' : (j : Int) < l.length := by omega
        have hlt2 : (j : Int) < l'.length := by have := HL.out; omega
        have e := HJ.out
        rw [dropI l j hlt, dropI l' j (by rw [← HL.out]; exact hlt)] at e
        generalize l.getD j 0 = u at *
        generalize l'.getD j 0 = v at *
        by_cases huv : u = v
        · subst huv
          have hvv : (u != u) = false := by simp
          have HE : Hid ((l.drop (j + 1) == l'.drop (j + 1)) = T) := by show _ = _; simpa using e
          clear e HJ HT h h'
          go_wp2
          go_quiet (fail)
          go_wp2
          go_roundw
          case rel => exact ⟨j + 1, q + nq, by omega, by go_num, by first | rfl | rw [World.drewN_drewN], HE⟩
          case measure => simp [intOf]; omega
        · have hvv : (u != v) = true := by simp [huv]
          have HE : Hid (false = T) := by show _ = _; rw [← e, List.cons_beq_cons, beq_eq_false_iff_ne.2 huv, Bool.false_and]
          clear e HJ HT h h' huv
          go_wp2
          go_quiet (fail)
          go_wp2
          go_ret
          exact ⟨by rw [← HE.out]; rfl, q + nq, by first | rfl | rw [World.drewN_drewN]⟩
      · have e := HJ.out
        rw [List.drop_of_length_le (by omega), List.drop_of_length_le (by have := HL.out; omega)] at e
        have HE : Hid (true = T) := by show _ = _; simpa using e
        clear e HJ HT h h'
        go_wp2
        go_ret
        exact ⟨by rw [← HE.out]; rfl, q, rfl⟩
  · have hne : ((l.length : Int) != (l'.length : Int)) = true := by simp; omega
    have hf : (l == l') = false := by rw [beq_eq_false_iff_ne]; intro e; exact hl (by rw [e])
    rw [hf]
    clear hl h h'
    go_enter Tryd.func63, Tryd.ntmps63
    go_wp2
    go_ret
    exact ⟨rfl, 0, rfl⟩
theorem Ints_any (A A' : Option Addr) (c c' : Nat) (l l' : List Int) (w : World) (h : RI w w.heap.size A l) (h' : RI w w.heap.size A' l') (hn : l.length ≤ maxLen) (hn' : l'.length ≤ maxLen) :
    Calls Tryd.prog 63 #[.slice A l.length c, .slice A' l'.length c'] w (RetV w (.bool (l == l'))) :=
  (Ints_q A A' c c' l l' w h h' hn hn').mono fun e w' ⟨he, n, hw⟩ => ⟨he, by rw [hw]; exact Rd.drw n⟩
set_option maxHeartbeats 800000 in
theorem Flags_q (A A' : Option Addr) (c c' : Nat) (l l' : List Bool) (w : World) (h : RB w w.heap.size A l) (h' : RB w w.heap.size A' l') (hn : l.length ≤ maxLen) (hn' : l'.length ≤ maxLen) :
    Calls Tryd.prog 29 #[.slice A l.length c, .slice A' l'.length c'] w fun e w' => e = .returned (.bool (l == l')) ∧ ∃ n, w' = w.drewN n := by
  unfold maxLen at hn hn'
  by_cases hl : l.length = l'.length
  · have hne : ((l.length : Int) != (l'.length : Int)) = false := by simp [hl]
    obtain ⟨T, hT⟩ : ∃ T, (l == l') = T := ⟨_, rfl⟩
    rw [hT]
    have HT : Hid ((l == l') = T) := hT
    clear hT
    have HL := Lib.hid hl
    clear hl
    go_enter Tryd.func29, Tryd.ntmps29
    go_wp2
    go_loopw [5] (fun i wr => ∃ (j q : Nat), j ≤ l.length ∧ i = .int .i64 j ∧ wr = w.drewN q ∧ Hid ((l.drop j == l'.drop j) = T)) (fun i _ => l.length - (intOf i).toNat)
    case atStart => exact ⟨0, 0, Nat.zero_le _, rfl, rfl, HT⟩
    case round =>
      obtain ⟨j, q, hj, rfl, rfl, HJ⟩ := hrel
      by_cases hlt : j < l.length
      · obtain ⟨a1, rfl, _, hc1⟩ := h j hlt
        obtain ⟨a2, rfl, _, hc2⟩ := h' j (by rw [← HL.out]; exact hlt)
        have hlt' : (j : Int) < l.length := by omega
        have hlt2 : (j : Int) < l'.length := by have := HL.out; omega
        have e := HJ.out
        rw [dropB l j hlt, dropB l' j (by rw [← HL.out]; exact hlt)] at e
        generalize l.getD j false = u at *
        generalize l'.getD j false = v at *
        by_cases huv : u = v
        · subst huv
          have hvv : (u != u) = false := by simp
          have hvv2 : (!u == u) = false := by cases u <;> rfl
          have HE : Hid ((l.drop (j + 1) == l'.drop (j + 1)) = T) := by show _ = _; simpa using e
          clear e HJ HT h h'
          go_wp2
          go_quiet (fail)
          go_wp2
          go_roundw
          case rel => exact ⟨j + 1, q + nq, by omega, by go_num, by first | rfl | rw [World.drewN_drewN], HE⟩
          case measure => simp [intOf]; omega
        · have hvv : (u != v) = true := by simp [huv]
          have hvv2 : (!u == v) = true := by cases u <;> cases v <;> simp_all
          have HE : Hid (false = T) := by show _ = _; rw [← e, List.cons_beq_cons, beq_eq_false_iff_ne.2 huv, Bool.false_and]
          clear e HJ HT h h' huv
          go_wp2
          go_quiet (fail)
          go_wp2
          go_ret
          exact ⟨by rw [← HE.out]; rfl, q + nq, by first | rfl | rw [World.drewN_drewN]⟩
      · have e := HJ.out
        rw [List.drop_of_length_le (by omega), List.drop_of_length_le (by have := HL.out; omega)] at e
        have HE : Hid (true = T) := by show _ = _; simpa using e
        clear e HJ HT h h'
        go_wp2
        go_ret
        exact ⟨by rw [← HE.out]; rfl, q, rfl⟩
  · have hne : ((l.length : Int) != (l'.length : Int)) = true := by simp; omega
    have hf : (l == l') = false := by rw [beq_eq_false_iff_ne]; intro e; exact hl (by rw [e])
    rw [hf]
    clear hl h h'
    go_enter Tryd.func29, Tryd.ntmps29
    go_wp2
    go_ret
    exact ⟨rfl, 0, rfl⟩
theorem Flags_any (A A' : Option Addr) (c c' : Nat) (l l' : List Bool) (w : World) (h : RB w w.heap.size A l) (h' : RB w w.heap.size A' l') (hn : l.length ≤ maxLen) (hn' : l'.length ≤ maxLen) :
    Calls Tryd.prog 29 #[.slice A l.length c, .slice A' l'.length c'] w (RetV w (.bool (l == l'))) :=
  (Flags_q A A' c c' l l' w h h' hn hn').mono fun e w' ⟨he, n, hw⟩ => ⟨he, by rw [hw]; exact Rd.drw n⟩
set_option maxHeartbeats 1600000 in
theorem refSame_in (A A' : Option Addr) (c c' : Nat) (N : Int) (L L' : List (List Int)) (w : World) (h : RC w w.heap.size A L) (h' : RC w w.heap.size A' L') (hn : L.length ≤ maxLen) (hl : L.length = L'.length) :
    Calls Tryd.prog 24 #[.agg #[.int .i64 N, .slice A L.length c], .agg #[.int .i64 N, .slice A' L'.length c']] w (RetV w (.bool (L == L'))) := by
  have hn' : L'.length ≤ maxLen := by omega
  unfold maxLen at hn hn'
  have hne : ((L.length : Int) != (L'.length : Int)) = false := by simp [hl]
  have hNN : (N != N) = false := by simp
  have hb1 := bal (Below.refl w.heap.size w) (.cells #[.int .i64 N, .slice A L.length c] 24)
  have hb2 := bal (Below.refl (w.alloc (.cells #[.int .i64 N, .slice A L.length c] 24)).heap.size (w.alloc (.cells #[.int .i64 N, .slice A L.length c] 24))) (.cells #[.int .i64 N, .slice A' L'.length c'] 24)
  have hb := bnx hb1 hb2
  have c1 := (hb2.cell (p := ⟨w.heap.size, 1, none⟩) (by simp)).trans (box_cells w (.int .i64 N) (.slice A L.length c) 24).2
  have c2 := (box_cells (w.alloc (.cells #[.int .i64 N, .slice A L.length c] 24)) (.int .i64 N) (.slice A' L'.length c') 24).2
  rw [show (w.alloc (.cells #[.int .i64 N, .slice A L.length c] 24)).heap.size = w.heap.size + 1 by simp] at c2
  have hs : w.heap.size + 1 < ((w.alloc (.cells #[.int .i64 N, .slice A L.length c] 24)).alloc (.cells #[.int .i64 N, .slice A' L'.length c'] 24)).heap.size := by simp
  have HR := Lib.hid (h.nx hb)
  have HR' := Lib.hid (h'.nx hb)
  have HB := Lib.hid hb
  generalize hw0 : (w.alloc (.cells #[.int .i64 N, .slice A L.length c] 24)).alloc (.cells #[.int .i64 N, .slice A' L'.length c'] 24) = w0 at *
  have HW0 := Lib.hid hw0
  have HC1 := Lib.hid c1
  have HC2 := Lib.hid c2
  obtain ⟨T, hT⟩ : ∃ T, (L == L') = T := ⟨_, rfl⟩
  rw [hT]
  have HT : Hid ((L == L') = T) := hT
  have HL := Lib.hid hl
  clear hT hw0 hb hb1 hb2 h h' c1 c2 hl
  go_enter Tryd.func24, Tryd.ntmps24
  go_wp2
  rw [HW0.out]
  go_loopw [5] (fun i wr => ∃ (j : Nat), j ≤ L.length ∧ i = .int .i64 j ∧ Below w0.heap.size w0 wr ∧ Hid ((L.drop j == L'.drop j) = T)) (fun i _ => L.length - (intOf i).toNat)
  case atStart => exact ⟨0, Nat.zero_le _, rfl, Below.refl _ _, HT⟩
  case round =>
    obtain ⟨j, hj, rfl, hB, HJ⟩ := hrel
    have p1 := (hB.cell (p := ⟨w.heap.size, 1, none⟩) (by simp; omega)).trans HC1.out
    have p2 := (hB.cell (p := ⟨w.heap.size + 1, 1, none⟩) (by simp; omega)).trans HC2.out
    have ps : w.heap.size + 1 < wr.heap.size := by have := hB.size; omega
    have ps0 : w.heap.size < wr.heap.size := by omega
    clear HT
    by_cases hlt : j < L.length
    · obtain ⟨a1, A1, k1, rfl, _, hc1, r1, m1⟩ := (HR.out.nx hB) j hlt
      obtain ⟨a2, A2, k2, rfl, _, hc2, r2, m2⟩ := (HR'.out.nx hB) j (by rw [← HL.out]; exact hlt)
      have hlt' : (j : Int) < L.length := by omega
      have hlt2 : (j : Int) < L'.length := by have := HL.out; omega
      have e := HJ.out
      rw [dropC L j hlt, dropC L' j (by rw [← HL.out]; exact hlt)] at e
      have C := Lib.hid (fun n => Ints_q A1 A2 k1 k2 _ _ (wr.drewN n) r1 r2 m1 m2)
      generalize L.getD j [] = u at *
      generalize L'.getD j [] = v at *
      have HBB := Lib.hid (bnx HB.out hB)
      have HB2 := Lib.hid hB
      by_cases huv : u = v
      · subst huv
        have hvv : (u == u) = true := by simp
        rw [hvv] at C
        have HE : Hid ((L.drop (j + 1) == L'.drop (j + 1)) = T) := by show _ = _; simpa using e
        clear e HJ r1 r2 hB hvv HR HR'
        go_wp2_with fail
        go_quiet ((go_at_call 63; exact Calls.quiet_of (C.out _)))
        go_wp2
        go_roundw
        case rel => exact ⟨j + 1, by omega, by go_num, bnx HB2.out (Rd.drw _), HE⟩
        case measure => simp [intOf]; omega
      · have hvv : (u == v) = false := by simp [huv]
        rw [hvv] at C
        have HE : Hid (false = T) := by show _ = _; rw [← e, List.cons_beq_cons, beq_eq_false_iff_ne.2 huv, Bool.false_and]
        clear e HJ r1 r2 hB hvv huv HR HR'
        go_wp2_with fail
        go_quiet ((go_at_call 63; exact Calls.quiet_of (C.out _)))
        go_wp2
        go_ret
        exact ⟨by rw [← HE.out]; rfl, bnx HBB.out (Rd.drw _)⟩
    · have e := HJ.out
      rw [List.drop_of_length_le (by omega), List.drop_of_length_le (by have := HL.out; omega)] at e
      have HE : Hid (true = T) := by show _ = _; simpa using e
      clear e HJ HR HR'
      go_wp2
      go_ret
      exact ⟨by rw [← HE.out]; rfl, bnx HB.out hB⟩
set_option maxHeartbeats 400000 in
theorem refSame_out (A A' : Option Addr) (c c' n n' : Nat) (N M : Int) (w : World) (hn : n ≤ maxLen) (hn' : n' ≤ maxLen) (h : N ≠ M ∨ n ≠ n') :
    Calls Tryd.prog 24 #[.agg #[.int .i64 N, .slice A n c], .agg #[.int .i64 M, .slice A' n' c']] w (RetV w (.bool false)) := by
  unfold maxLen at hn hn'
  have HB := Lib.hid (bal (bal (Below.refl w.heap.size w) (.cells #[.int .i64 N, .slice A n c] 24)) (.cells #[.int .i64 M, .slice A' n' c'] 24))
  have cs : (N != M) = true ∨ ((N != M) = false ∧ ((n : Int) != (n' : Int)) = true) := by
    by_cases e : N = M
    · exact .inr ⟨by simp [e], by simp; rcases h with h | h <;> omega⟩
    · exact .inl (by simp [e])
  clear h
  rcases cs with c1 | ⟨c1, c2⟩
  all_goals
    go_enter Tryd.func24, Tryd.ntmps24
    go_wp2
    go_ret
    exact ⟨rfl, HB.out⟩
theorem refSame_any (A A' : Option Addr) (c c' : Nat) (N M : Int) (L L' : List (List Int)) (w : World) (h : RC w w.heap.size A L) (h' : RC w w.heap.size A' L') (hn : L.length ≤ maxLen) (hn' : L'.length ≤ maxLen) :
    Calls Tryd.prog 24 #[.agg #[.int .i64 N, .slice A L.length c], .agg #[.int .i64 M, .slice A' L'.length c']] w (RetV w (.bool (sameF N M L L'))) := by
  unfold sameF
  by_cases e : N = M
  · subst e
    rw [show (N == N) = true by simp, Bool.true_and]
    by_cases hl : L.length = L'.length
    · exact refSame_in A A' c c' N L L' w h h' hn hl
    · have hf : (L == L') = false := by rw [beq_eq_false_iff_ne]; intro e; exact hl (by rw [e])
      rw [hf]
      exact refSame_out A A' c c' _ _ N N w hn hn' (.inr hl)
  · rw [show (N == M) = false by simp [e], Bool.false_and]
    exact refSame_out A A' c c' _ _ N M w hn hn' (.inl e)
end Go.Proofs.YtplcabecbofjpaaDoor
