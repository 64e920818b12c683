/-
  cnf.Same and what it calls over the translated program.
-/
import Derived.Test.YtplcabecbofjpaaDoorProg
import Derived.WalkKit
import Derived.WalkSpells
import Derived.WalkLawsBesides
import Derived.Lib.Hide
import Derived.BigQuiet
import Derived.Deep.QuietTactic
import Derived.Deep.RegionWith
import Derived.Deep.RegionHeld3
import Derived.Test.YtplcabecbofjpaaDoorS2
set_option linter.unusedVariables false
namespace Go.Proofs.YtplcabecbofjpaaDoor
open Go.RowKit
theorem Rd.drw {w : World} (n : Nat) : Below w.heap.size w (w.drewN n) := below_drewN (Below.refl _ _) n
set_option maxHeartbeats 400000 in
theorem Equal_any (A A' : Option Addr) (c c' : Nat) (l l' : List Int) (w : World) (h : RI w w.heap.size A l) (h' : RI w w.heap.size A' l') (hn : l.length ≤ maxLen) (hn' : l'.length ≤ maxLen) :
    Calls Tryd.prog 62 #[.slice A l.length c, .slice A' l'.length c'] w (RetV w (.bool (l == l'))) := by
  unfold maxLen at hn hn'
  by_cases hl : l.length = l'.length
  · have hne : ((l.length : Int) != (l'.length : Int)) = false := by simp [hl]
    obtain ⟨T, hT⟩ : ∃ T, (l == l') = T := ⟨_, rfl⟩
    rw [hT]
    have HT : Hid ((l == l') = T) := hT
    clear hT
    have HL := Lib.hid hl
    clear hl
    go_enter Tryd.func62, Tryd.ntmps62
    go_wp2
    go_loopw [13] (fun i wr => ∃ (j q : Nat), j ≤ l.length ∧ i = .int .i64 j ∧ wr = w.drewN q ∧ Hid ((l.drop j == l'.drop j) = T)) (fun i _ => l.length - (intOf i).toNat)
    case atStart => exact ⟨0, 0, Nat.zero_le _, rfl, rfl, HT⟩
    case round =>
      obtain ⟨j, q, hj, rfl, rfl, HJ⟩ := hrel
      by_cases hlt : j < l.length
      · obtain ⟨a1, rfl, _, hc1⟩ := h j hlt
        obtain ⟨a2, rfl, _, hc2⟩ := h' j (by rw [← HL.out]; exact hlt)
        have hlt' : (j : Int) < l.length := by omega
        have hlt2 : (j : Int) < l'.length := by have := HL.out; omega
        have e := HJ.out
        rw [dropI l j hlt, dropI l' j (by rw [← HL.out]; exact hlt)] at e
        generalize l.getD j 0 = u at *
        generalize l'.getD j 0 = v at *
        by_cases huv : u = v
        · subst huv
          have hvv : (u != u) = false := by simp
          have HE : Hid ((l.drop (j + 1) == l'.drop (j + 1)) = T) := by show _ = _; simpa using e
          clear e HJ HT h h'
          go_wp2
          go_quiet (fail)
          go_wp2
          go_roundw
          case rel => exact ⟨j + 1, _, by omega, by go_num, rfl, HE⟩
          case measure => simp [intOf]; omega
        · have hvv : (u != v) = true := by simp [huv]
          have HE : Hid (false = T) := by show _ = _; rw [← e, List.cons_beq_cons, beq_eq_false_iff_ne.2 huv, Bool.false_and]
          clear e HJ HT h h' huv
          go_wp2
          go_quiet (fail)
          go_wp2
          go_ret
          exact ⟨by rw [← HE.out]; rfl, below_drewN (Rd.drw _) _⟩
      · have e := HJ.out
        rw [List.drop_of_length_le (by omega), List.drop_of_length_le (by have := HL.out; omega)] at e
        have HE : Hid (true = T) := by show _ = _; simpa using e
        clear e HJ HT h h'
        go_wp2
        go_ret
        exact ⟨by rw [← HE.out]; rfl, Rd.drw _⟩
  · have hne : ((l.length : Int) != (l'.length : Int)) = true := by simp; omega
    have hf : (l == l') = false := by rw [beq_eq_false_iff_ne]; intro e; exact hl (by rw [e])
    rw [hf]
    clear hl h h'
    go_enter Tryd.func62, Tryd.ntmps62
    go_wp2
    go_ret
    exact ⟨rfl, Below.refl _ _⟩
set_option maxHeartbeats 400000 in
theorem EqualFunc_any (A A' : Option Addr) (c c' : Nat) (L L' : List (List Int)) (w : World) (h : RC w w.heap.size A L) (h' : RC w w.heap.size A' L') (hn : L.length ≤ maxLen) (hn' : L'.length ≤ maxLen) :
    Calls Tryd.prog 61 #[.slice A L.length c, .slice A' L'.length c', .func (.func 62) #[] #[]] w (RetV w (.bool (L == L'))) := by
  unfold maxLen at hn hn'
  by_cases hl : L.length = L'.length
  · have hne : ((L.length : Int) != (L'.length : Int)) = false := by simp [hl]
    obtain ⟨T, hT⟩ : ∃ T, (L == L') = T := ⟨_, rfl⟩
    rw [hT]
    have HT : Hid ((L == L') = T) := hT
    clear hT
    have HL := Lib.hid hl
    clear hl
    go_enter Tryd.func61, Tryd.ntmps61
    go_wp2
    go_loopw [17] (fun i wr => ∃ (j : Nat), j ≤ L.length ∧ i = .int .i64 j ∧ Below w.heap.size w wr ∧ Hid ((L.drop j == L'.drop j) = T)) (fun i _ => L.length - (intOf i).toNat)
    case atStart => exact ⟨0, Nat.zero_le _, rfl, Below.refl _ _, HT⟩
    case round =>
      obtain ⟨j, hj, rfl, hB, HJ⟩ := hrel
      by_cases hlt : j < L.length
      · obtain ⟨a1, A1, c1, rfl, _, hc1, r1, m1⟩ := (h.nx hB) j hlt
        obtain ⟨a2, A2, c2, rfl, _, hc2, r2, m2⟩ := (h'.nx hB) j (by rw [← HL.out]; exact hlt)
        have hlt' : (j : Int) < L.length := by omega
        have hlt2 : (j : Int) < L'.length := by have := HL.out; omega
        have e := HJ.out
        rw [dropC L j hlt, dropC L' j (by rw [← HL.out]; exact hlt)] at e
        have C := Equal_any A1 A2 c1 c2 _ _ wr r1 r2 m1 m2
        generalize L.getD j [] = u at *
        generalize L'.getD j [] = v at *
        have HB := Lib.hid hB
        by_cases huv : u = v
        · subst huv
          have hvv : (u == u) = true := by simp
          rw [hvv] at C
          have HE : Hid ((L.drop (j + 1) == L'.drop (j + 1)) = T) := by show _ = _; simpa using e
          clear e HJ HT h h' r1 r2 hB hvv
          go_wp2_with fail
          refine C.mono ?_; rintro e w1 ⟨rfl, hb⟩
          go_wp2
          go_roundw
          case rel => exact ⟨j + 1, by omega, by go_num, bnx HB.out hb, HE⟩
          case measure => simp [intOf]; omega
        · have hvv : (u == v) = false := by simp [huv]
          rw [hvv] at C
          have HE : Hid (false = T) := by show _ = _; rw [← e, List.cons_beq_cons, beq_eq_false_iff_ne.2 huv, Bool.false_and]
          clear e HJ HT h h' r1 r2 hB hvv huv
          go_wp2_with fail
          refine C.mono ?_; rintro e w1 ⟨rfl, hb⟩
          go_wp2
          go_ret
          exact ⟨by rw [← HE.out]; rfl, bnx HB.out hb⟩
      · have e := HJ.out
        rw [List.drop_of_length_le (by omega), List.drop_of_length_le (by have := HL.out; omega)] at e
        have HE : Hid (true = T) := by show _ = _; simpa using e
        clear e HJ HT h h'
        go_wp2
        go_ret
        exact ⟨by rw [← HE.out]; rfl, hB⟩
  · have hne : ((L.length : Int) != (L'.length : Int)) = true := by simp; omega
    have hf : (L == L') = false := by rw [beq_eq_false_iff_ne]; intro e; exact hl (by rw [e])
    rw [hf]
    clear hl h h'
    go_enter Tryd.func61, Tryd.ntmps61
    go_wp2
    go_ret
    exact ⟨rfl, Below.refl _ _⟩
/-- Two values in a box. -/
theorem box_cells (w : World) (x y : Value) (t : TypeId) : (w.alloc (.cells #[x, y] t)).cell? ⟨w.heap.size, 0, none⟩ = some x ∧ (w.alloc (.cells #[x, y] t)).cell? ⟨w.heap.size, 1, none⟩ = some y := by constructor <;> go_simp
def sameF (N M : Int) (L L' : List (List Int)) : Bool := N == M && L == L'
set_option maxHeartbeats 400000 in
theorem Same_any (A A' : Option Addr) (c c' : Nat) (N M : Int) (L L' : List (List Int)) (w : World) (h : RC w w.heap.size A L) (h' : RC w w.heap.size A' L') (hn : L.length ≤ maxLen) (hn' : L'.length ≤ maxLen) :
    Calls Tryd.prog 23 #[.agg #[.int .i64 N, .slice A L.length c], .agg #[.int .i64 M, .slice A' L'.length c']] w (RetV w (.bool (sameF N M L L'))) := by
  unfold sameF
  have hb := bal (bal (Below.refl w.heap.size w) (.cells #[.int .i64 N, .slice A L.length c] 24)) (.cells #[.int .i64 M, .slice A' L'.length c'] 24)
  have C := EqualFunc_any A A' c c' L L' _ (h.nx hb) (h'.nx hb) hn hn'
  have HB := Lib.hid hb
  generalize (L == L') = b at *
  clear h h' hb
  cases hnm : (N == M)
  · simp only [Bool.false_and]
    clear C
    go_enter Tryd.func23, Tryd.ntmps23
    go_wp2
    go_ret
    exact ⟨rfl, HB.out⟩
  · simp only [Bool.true_and]
    go_enter Tryd.func23, Tryd.ntmps23
    go_wp2_with fail
    refine C.mono ?_; rintro e w1 ⟨rfl, hb1⟩
    go_wp2
    go_ret
    exact ⟨rfl, bnx HB.out hb1⟩
end Go.Proofs.YtplcabecbofjpaaDoor
