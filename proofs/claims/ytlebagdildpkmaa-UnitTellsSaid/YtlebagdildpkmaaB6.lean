/-
  Which formulas are small, and right.
-/
import Derived.Test.YtlebagdildpkmaaProg
import Derived.WalkKit
import Derived.WalkSpells
import Derived.WalkLawsBesides
import Derived.Lib.Hide
import Derived.BigQuiet
import Derived.Deep.QuietTactic
import Derived.Deep.RegionWith
import Derived.Deep.RegionHeld3
import Derived.Test.YtlebagdildpkmaaA6
set_option linter.unusedVariables false
namespace Go.Proofs.Ytlebagdildpkmaa
open Go.RowKit
/-- Which formulas are right. -/
def rightC (N : Int) (c : List Int) : Bool := decide (c.length ≤ 1000) && !c.any (badL N)
def rightF (N : Int) (L : List (List Int)) : Bool := decide (0 ≤ N) && decide (N ≤ 100000) && decide (L.length ≤ 20000) && L.all (rightC N)
theorem right_parts {N : Int} {L : List (List Int)} (h : rightF N L = true) : 0 ≤ N ∧ N ≤ 100000 ∧ L.length ≤ 20000 ∧ ∀ c ∈ L, c.length ≤ 1000 ∧ ∀ x ∈ c, x ≠ 0 ∧ -N ≤ x ∧ x ≤ N := by
  simp only [rightF, Bool.and_eq_true, decide_eq_true_eq, List.all_eq_true] at h
  obtain ⟨⟨⟨h1, h2⟩, h3⟩, h4⟩ := h
  refine ⟨h1, h2, h3, fun c hc => ?_⟩
  have := h4 c hc
  simp only [rightC, Bool.and_eq_true, decide_eq_true_eq, Bool.not_eq_true', List.any_eq_false] at this
  refine ⟨this.1, fun x hx => ?_⟩
  have h5 := this.2 x hx
  simp only [badL, Bool.or_eq_true, beq_iff_eq, decide_eq_true_eq, not_or] at h5
  omega
/-- Are there few clauses, of few literals? -/
def smallC (m : Int) (c : List Int) : Bool := decide ((c.length : Int) ≤ m)
def smallF (m : Int) (L : List (List Int)) : Bool := decide ((L.length : Int) ≤ m) && L.all (smallC m)
set_option maxHeartbeats 800000 in
theorem Small_any (A : Option Addr) (c : Nat) (N m : Int) (L : List (List Int)) (w : World) (h : RC w w.heap.size A L) (hn : L.length ≤ maxLen) :
    Calls Try.prog 22 #[.agg #[.int .i64 N, .slice A L.length c], .int .i64 m] w (RetV w (.bool (smallF m L))) := by
  unfold maxLen at hn
  have hb := bal (Below.refl w.heap.size w) (.cells #[.int .i64 N, .slice A L.length c] 35)
  have HB := Lib.hid hb
  have hr := Lib.hid (h.nx hb)
  unfold smallF
  clear h hb
  by_cases hm : (L.length : Int) ≤ m
  · have d1 : decide (m < (L.length : Int)) = false := decide_eq_false (by omega)
    rw [decide_eq_true hm, Bool.true_and]
    obtain ⟨T, hT⟩ : ∃ T, L.all (smallC m) = T := ⟨_, rfl⟩
    rw [hT]
    have HT : Hid (L.all (smallC m) = T) := hT
    clear hT hm
    go_enter Try.func22, Try.ntmps22
    go_wp2
    go_loop [5] (fun i => ∃ j : Nat, j ≤ L.length ∧ i = .int .i64 j ∧ Hid ((L.drop j).all (smallC m) = T)) (fun i => L.length - (intOf i).toNat)
    case atStart => exact ⟨0, Nat.zero_le _, rfl, HT⟩
    case round =>
      obtain ⟨j, hj, rfl, HJ⟩ := hrel
      by_cases hlt : j < L.length
      · obtain ⟨a1, A1, c1, rfl, _, hc1, r1, m1⟩ := hr.out j hlt
        have e := HJ.out
        rw [dropC L j hlt, List.all_cons] at e
        unfold maxLen at m1
        generalize L.getD j [] = u at *
        clear HJ HT r1 hr
        by_cases hu : (u.length : Int) ≤ m
        · have d4 : decide (m < (u.length : Int)) = false := decide_eq_false (by omega)
          have HE : Hid ((L.drop (j + 1)).all (smallC m) = T) := by show _ = _; rw [← e]; simp [smallC, hu]
          clear e
          go_wp2
          go_round
          case rel => exact ⟨j + 1, by omega, by go_num, HE⟩
          case measure => simp [intOf]; omega
        · have d4 : decide (m < (u.length : Int)) = true := decide_eq_true (by omega)
          have HE : Hid (false = T) := by show _ = _; rw [← e]; simp [smallC]; intro h; omega
          clear e
          go_wp2
          go_ret
          exact ⟨by rw [← HE.out]; rfl, HB.out⟩
      · have e := HJ.out
        rw [List.drop_of_length_le (by omega)] at e
        have HE : Hid (true = T) := by show _ = _; simpa using e
        clear e HJ HT hr
        go_wp2
        go_ret
        exact ⟨by rw [← HE.out]; rfl, HB.out⟩
  · have d1 : decide (m < (L.length : Int)) = true := decide_eq_true (by omega)
    rw [decide_eq_false hm, Bool.false_and]
    clear hr hm
    go_enter Try.func22, Try.ntmps22
    go_wp2
    go_ret
    exact ⟨rfl, HB.out⟩
set_option maxHeartbeats 1600000 in
theorem refRight_in (A : Option Addr) (c : Nat) (N : Int) (L : List (List Int)) (w : World) (h : RC w w.heap.size A L) (h0 : 0 ≤ N) (h1 : N ≤ 100000) (h2 : L.length ≤ 20000) :
    Calls Try.prog 23 #[.agg #[.int .i64 N, .slice A L.length c]] w (RetV w (.bool (L.all (rightC N)))) := by
  have hb := bal (Below.refl w.heap.size w) (.cells #[.int .i64 N, .slice A L.length c] 35)
  have HB := Lib.hid hb
  have hr := Lib.hid (h.nx hb)
  obtain ⟨T, hT⟩ : ∃ T, L.all (rightC N) = T := ⟨_, rfl⟩
  rw [hT]
  have HT : Hid (L.all (rightC N) = T) := hT
  have d1 : decide (N < 0) = false := decide_eq_false (by omega)
  have d2 : decide (100000 < N) = false := decide_eq_false (by omega)
  have d3 : decide ((20000 : Int) < L.length) = false := decide_eq_false (by omega)
  clear hT h hb
  go_enter Try.func23, Try.ntmps23
  go_wp2
  go_loop [3] (fun i => ∃ j : Nat, j ≤ L.length ∧ i = .int .i64 j ∧ Hid ((L.drop j).all (rightC N) = T)) (fun i => L.length - (intOf i).toNat)
  case atStart => exact ⟨0, Nat.zero_le _, rfl, HT⟩
  case round =>
    obtain ⟨j, hj, rfl, HJ⟩ := hrel
    by_cases hlt : j < L.length
    · obtain ⟨a1, A1, c1, rfl, _, hc1, r1, m1⟩ := hr.out j hlt
      have e := HJ.out
      rw [dropC L j hlt, List.all_cons] at e
      unfold maxLen at m1
      generalize L.getD j [] = u at *
      clear HJ HT hr
      by_cases hu : u.length ≤ 1000
      · have d4 : decide ((1000 : Int) < u.length) = false := decide_eq_false (by omega)
        have HU : Hid ((!(u.drop 0).any (badL N) && (L.drop (j + 1)).all (rightC N)) = T) := by show _ = _; rw [← e]; simp [rightC, hu]
        have HR := Lib.hid r1
        clear e r1
        go_wp2
        go_loop [4] (fun i => ∃ k : Nat, k ≤ u.length ∧ i = .int .i64 k ∧ Hid ((!(u.drop k).any (badL N) && (L.drop (j + 1)).all (rightC N)) = T)) (fun i => u.length - (intOf i).toNat)
        case atStart => exact ⟨0, Nat.zero_le _, rfl, HU⟩
        case round =>
          obtain ⟨k, hk, rfl, HK⟩ := hrel
          clear HU
          by_cases hkl : k < u.length
          · obtain ⟨a2, rfl, _, hc2⟩ := HR.out k hkl
            have e := HK.out
            rw [dropI u k hkl, List.any_cons] at e
            generalize u.getD k 0 = x at *
            clear HK HR
            have cs : ((x == 0) = true) ∨ ((x == 0) = false ∧ decide (N < x) = true) ∨ ((x == 0) = false ∧ decide (N < x) = false ∧ decide (x < -N) = true) ∨ ((x == 0) = false ∧ decide (N < x) = false ∧ decide (x < -N) = false) := by
              cases (x == 0) <;> cases decide (x < -N) <;> cases decide (N < x) <;> simp
            rcases cs with c1 | ⟨c1, c2⟩ | ⟨c1, c2, c3⟩ | ⟨c1, c2, c3⟩
            · have HE : Hid (false = T) := by show _ = _; rw [← e]; simp [badL, c1]
              clear e
              go_wp2
              go_ret
              exact ⟨by rw [← HE.out]; rfl, HB.out⟩
            · have HE : Hid (false = T) := by show _ = _; rw [← e]; simp only [badL, c1, c2, Bool.or_true, Bool.true_or, Bool.not_true, Bool.false_and]
              clear e
              go_wp2
              go_ret
              exact ⟨by rw [← HE.out]; rfl, HB.out⟩
            · have HE : Hid (false = T) := by show _ = _; rw [← e]; simp only [badL, c1, c2, c3, Bool.or_true, Bool.true_or, Bool.not_true, Bool.false_and]
              clear e
              go_wp2
              go_ret
              exact ⟨by rw [← HE.out]; rfl, HB.out⟩
            · have HE : Hid ((!(u.drop (k + 1)).any (badL N) && (L.drop (j + 1)).all (rightC N)) = T) := by show _ = _; rw [← e]; simp only [badL, c1, c2, c3, Bool.or_false, Bool.false_or]
              clear e
              go_wp2
              go_round
              case rel => exact ⟨k + 1, by omega, by go_num, HE⟩
              case measure => simp [intOf]; omega
          · have e := HK.out
            rw [List.drop_of_length_le (by omega)] at e
            have HE : Hid ((L.drop (j + 1)).all (rightC N) = T) := by show _ = _; simpa using e
            clear e HK HR
            go_wp2
            go_round
            case rel => exact ⟨j + 1, by omega, by go_num, HE⟩
            case measure => simp [intOf]; omega
      · have d4 : decide ((1000 : Int) < u.length) = true := decide_eq_true (by omega)
        have HE : Hid (false = T) := by show _ = _; rw [← e]; simp [rightC, hu]
        clear e
        go_wp2
        go_ret
        exact ⟨by rw [← HE.out]; rfl, HB.out⟩
    · have e := HJ.out
      rw [List.drop_of_length_le (by omega)] at e
      have HE : Hid (true = T) := by show _ = _; simpa using e
      clear e HJ HT hr
      go_wp2
      go_ret
      exact ⟨by rw [← HE.out]; rfl, HB.out⟩
set_option maxHeartbeats 400000 in
theorem refRight_out (A : Option Addr) (c : Nat) (N : Int) (n : Nat) (w : World) (hn : n ≤ maxLen) (h : N < 0 ∨ 100000 < N ∨ 20000 < n) :
    Calls Try.prog 23 #[.agg #[.int .i64 N, .slice A n c]] w (RetV w (.bool false)) := by
  unfold maxLen at hn
  have cs : (decide (N < 0) = true) ∨ (decide (N < 0) = false ∧ decide (100000 < N) = true) ∨ (decide (N < 0) = false ∧ decide (100000 < N) = false ∧ decide ((20000 : Int) < n) = true) := by
    simp only [decide_eq_true_eq, decide_eq_false_iff_not]; omega
  have HB := Lib.hid (bal (Below.refl w.heap.size w) (.cells #[.int .i64 N, .slice A n c] 35))
  clear h
  rcases cs with c1 | ⟨c1, c2⟩ | ⟨c1, c2, c3⟩
  all_goals
    go_enter Try.func23, Try.ntmps23
    go_wp2
    go_ret
    exact ⟨rfl, HB.out⟩
theorem refRight_any (A : Option Addr) (c : Nat) (N : Int) (L : List (List Int)) (w : World) (h : RC w w.heap.size A L) (hn : L.length ≤ maxLen) :
    Calls Try.prog 23 #[.agg #[.int .i64 N, .slice A L.length c]] w (RetV w (.bool (rightF N L))) := by
  by_cases hr : 0 ≤ N ∧ N ≤ 100000 ∧ L.length ≤ 20000
  · have e : rightF N L = L.all (rightC N) := by simp [rightF, hr]
    rw [e]
    exact refRight_in A c N L w h hr.1 hr.2.1 hr.2.2
  · have e : rightF N L = false := by
      unfold rightF
      have hh : (decide (0 ≤ N) && decide (N ≤ 100000) && decide (L.length ≤ 20000)) = false := by
        rw [Bool.eq_false_iff]; intro hh; simp at hh; omega
      rw [hh, Bool.false_and]
    rw [e]
    exact refRight_out A c N L.length w hn (by omega)
theorem small_parts {m : Int} {L : List (List Int)} (h : smallF m L = true) : (L.length : Int) ≤ m ∧ ∀ c ∈ L, (c.length : Int) ≤ m := by
  simp only [smallF, smallC, Bool.and_eq_true, decide_eq_true_eq, List.all_eq_true] at h
  exact h
end Go.Proofs.Ytlebagdildpkmaa
