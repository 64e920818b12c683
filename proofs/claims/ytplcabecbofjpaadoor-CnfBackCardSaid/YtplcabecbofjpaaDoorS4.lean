/-
  cnf.Right and cnf.Holds over the translated program.
-/
import Derived.Test.YtplcabecbofjpaaDoorProg
import Derived.WalkKit
import Derived.WalkSpells
import Derived.WalkLawsBesides
import Derived.Lib.Hide
import Derived.BigQuiet
import Derived.Deep.QuietTactic
import Derived.Deep.RegionWith
import Derived.Deep.RegionHeld3
import Derived.Test.YtplcabecbofjpaaDoorS3
set_option linter.unusedVariables false
namespace Go.Proofs.YtplcabecbofjpaaDoor
open Go.RowKit
/-- Which formulas are right. -/
def rightC (N : Int) (c : List Int) : Bool := decide (c.length ≤ 1000) && !c.any (badL N)
def rightF (N : Int) (L : List (List Int)) : Bool := decide (0 ≤ N) && decide (N ≤ 100000) && decide (L.length ≤ 20000) && L.all (rightC N)
set_option maxHeartbeats 800000 in
theorem Right_in (A : Option Addr) (c : Nat) (N : Int) (L : List (List Int)) (w : World) (h : RC w w.heap.size A L) (h0 : 0 ≤ N) (h1 : N ≤ 100000) (h2 : L.length ≤ 20000) :
    Calls Tryd.prog 21 #[.agg #[.int .i64 N, .slice A L.length c]] w (RetV w (.bool (L.all (rightC N)))) := by
  have hb := bal (Below.refl w.heap.size w) (.cells #[.int .i64 N, .slice A L.length c] 24)
  have HB := Lib.hid hb
  have hr := Lib.hid (h.nx hb)
  have hc0 := (box_cells w (.int .i64 N) (.slice A L.length c) 24).1
  have HP := Lib.hid (fun x => bad_any w.heap.size N x _ hc0 h0 h1)
  obtain ⟨T, hT⟩ : ∃ T, L.all (rightC N) = T := ⟨_, rfl⟩
  rw [hT]
  have HT : Hid (L.all (rightC N) = T) := hT
  have d1 : decide (N < 0) = false := decide_eq_false (by omega)
  have d2 : decide (100000 < N) = false := decide_eq_false (by omega)
  have d3 : decide ((20000 : Int) < L.length) = false := decide_eq_false (by omega)
  clear hT h hb hc0
  go_enter Tryd.func21, Tryd.ntmps21
  go_wp2
  go_loop [24] (fun i => ∃ j : Nat, j ≤ L.length ∧ i = .int .i64 j ∧ Hid ((L.drop j).all (rightC N) = T)) (fun i => L.length - (intOf i).toNat)
  case atStart => exact ⟨0, Nat.zero_le _, rfl, HT⟩
  case round =>
    obtain ⟨j, hj, rfl, HJ⟩ := hrel
    by_cases hlt : j < L.length
    · obtain ⟨a1, A1, c1, rfl, _, hc1, r1, m1⟩ := hr.out j hlt
      have e := HJ.out
      rw [dropC L j hlt, List.all_cons] at e
      have C := contains_bad A1 c1 _ (badL N) w.heap.size _ r1 m1 (fun x _ => HP.out x)
      unfold maxLen at m1
      generalize L.getD j [] = u at *
      clear HJ HT HP r1 hr
      by_cases hu : u.length ≤ 1000
      · have d4 : decide ((1000 : Int) < u.length) = false := decide_eq_false (by omega)
        cases hx : u.any (badL N)
        · rw [hx] at C
          have HE : Hid ((L.drop (j + 1)).all (rightC N) = T) := by show _ = _; rw [← e]; simp [rightC, hu, hx]
          clear e
          go_wp2_with fail
          refine C.mono ?_; rintro e w1 ⟨rfl, rfl⟩
          go_wp2
          go_round
          case rel => exact ⟨j + 1, by omega, by go_num, HE⟩
          case measure => simp [intOf]; omega
        · rw [hx] at C
          have HE : Hid (false = T) := by show _ = _; rw [← e]; simp [rightC, hu, hx]
          clear e
          go_wp2_with fail
          refine C.mono ?_; rintro e w1 ⟨rfl, rfl⟩
          go_wp2
          go_ret
          exact ⟨by rw [← HE.out]; rfl, HB.out⟩
      · have d4 : decide ((1000 : Int) < u.length) = true := decide_eq_true (by omega)
        have HE : Hid (false = T) := by show _ = _; rw [← e]; simp [rightC, hu]
        clear e C
        go_wp2
        go_ret
        exact ⟨by rw [← HE.out]; rfl, HB.out⟩
    · have e := HJ.out
      rw [List.drop_of_length_le (by omega)] at e
      have HE : Hid (true = T) := by show _ = _; simpa using e
      clear e HJ HT HP hr
      go_wp2
      go_ret
      exact ⟨by rw [← HE.out]; rfl, HB.out⟩
set_option maxHeartbeats 400000 in
theorem Right_out (A : Option Addr) (c : Nat) (N : Int) (n : Nat) (w : World) (hn : n ≤ maxLen) (h : N < 0 ∨ 100000 < N ∨ 20000 < n) :
    Calls Tryd.prog 21 #[.agg #[.int .i64 N, .slice A n c]] w (RetV w (.bool false)) := by
  unfold maxLen at hn
  have cs : (decide (N < 0) = true) ∨ (decide (N < 0) = false ∧ decide (100000 < N) = true) ∨ (decide (N < 0) = false ∧ decide (100000 < N) = false ∧ decide ((20000 : Int) < n) = true) := by
    simp only [decide_eq_true_eq, decide_eq_false_iff_not]; omega
  have HB := Lib.hid (bal (Below.refl w.heap.size w) (.cells #[.int .i64 N, .slice A n c] 24))
  clear h
  rcases cs with c1 | ⟨c1, c2⟩ | ⟨c1, c2, c3⟩
  all_goals
    go_enter Tryd.func21, Tryd.ntmps21
    go_wp2
    go_ret
    exact ⟨rfl, HB.out⟩
theorem Right_any (A : Option Addr) (c : Nat) (N : Int) (L : List (List Int)) (w : World) (h : RC w w.heap.size A L) (hn : L.length ≤ maxLen) :
    Calls Tryd.prog 21 #[.agg #[.int .i64 N, .slice A L.length c]] w (RetV w (.bool (rightF N L))) := by
  by_cases hr : 0 ≤ N ∧ N ≤ 100000 ∧ L.length ≤ 20000
  · have e : rightF N L = L.all (rightC N) := by simp [rightF, hr]
    rw [e]
    exact Right_in A c N L w h hr.1 hr.2.1 hr.2.2
  · have e : rightF N L = false := by
      unfold rightF
      have hh : (decide (0 ≤ N) && decide (N ≤ 100000) && decide (L.length ≤ 20000)) = false := by
        rw [Bool.eq_false_iff]; intro hh; simp at hh; omega
      rw [hh, Bool.false_and]
    rw [e]
    exact Right_out A c N L.length w hn (by omega)
set_option maxHeartbeats 800000 in
theorem Holds_any (A A' : Option Addr) (c c' : Nat) (N : Int) (L : List (List Int)) (m : List Bool) (w : World) (h : RC w w.heap.size A L) (h' : RB w w.heap.size A' m) (hn : L.length ≤ maxLen) (hm : m.length ≤ maxLen) :
    Calls Tryd.prog 32 #[.agg #[.int .i64 N, .slice A L.length c], .slice A' m.length c'] w (RetV w (.bool (hoT L m))) := by
  have hb := bal (Below.refl w.heap.size w) (.cells #[.int .i64 N, .slice A L.length c] 24)
  have hr := Lib.hid h
  have hr' := Lib.hid h'
  have HM := Lib.hid hm
  obtain ⟨T, hT⟩ : ∃ T, hoT L m = T := ⟨_, rfl⟩
  rw [hT]
  have HT : Hid (L.all (fun c => clT c m) = T) := hT
  unfold maxLen at hn hm
  clear hT h h'
  go_enter Tryd.func32, Tryd.ntmps32
  go_wp2
  go_loopw [10] (fun i wr => ∃ j : Nat, j ≤ L.length ∧ i = .int .i64 j ∧ Below w.heap.size w wr ∧ Hid ((L.drop j).all (fun c => clT c m) = T)) (fun i _ => L.length - (intOf i).toNat)
  case atStart => exact ⟨0, Nat.zero_le _, rfl, hb, HT⟩
  case round =>
    obtain ⟨j, hj, rfl, hB, HJ⟩ := hrel
    by_cases hlt : j < L.length
    · obtain ⟨a1, A1, c1, rfl, _, hc1, r1, m1⟩ := (hr.out.nx hB) j hlt
      have e := HJ.out
      rw [dropC L j hlt, List.all_cons] at e
      have C := Clause_any A1 A' c1 c' _ m wr r1 (hr'.out.nx hB) m1 HM.out
      generalize L.getD j [] = u at *
      have HB := Lib.hid hB
      clear HJ HT r1 hr hr' hb hB
      cases hx : clT u m
      · rw [hx] at C
        have HE : Hid (false = T) := by show _ = _; rw [← e]; simp [hx]
        clear e
        go_wp2_with fail
        refine C.mono ?_; rintro e w1 ⟨rfl, hb1⟩
        go_wp2
        go_ret
        exact ⟨by rw [← HE.out]; rfl, bnx HB.out hb1⟩
      · rw [hx] at C
        have HE : Hid ((L.drop (j + 1)).all (fun c => clT c m) = T) := by show _ = _; rw [← e]; simp [hx]
        clear e
        go_wp2_with fail
        refine C.mono ?_; rintro e w1 ⟨rfl, hb1⟩
        go_wp2
        go_roundw
        case rel => exact ⟨j + 1, by omega, by go_num, bnx HB.out hb1, HE⟩
        case measure => simp [intOf]; omega
    · have e := HJ.out
      rw [List.drop_of_length_le (by omega)] at e
      have HE : Hid (true = T) := by show _ = _; simpa using e
      clear e HJ HT hr hr'
      go_wp2
      go_ret
      exact ⟨by rw [← HE.out]; rfl, hB⟩
end Go.Proofs.YtplcabecbofjpaaDoor
