/-
  Rows held against one another; what holds in a model; whether a number is in a row.
-/
import Derived.Test.YtlebagdildpkmaaProg
import Derived.WalkKit
import Derived.WalkSpells
import Derived.WalkLawsBesides
import Derived.Lib.Hide
import Derived.BigQuiet
import Derived.Deep.QuietTactic
import Derived.Deep.RegionWith
import Derived.Deep.RegionHeld3
import Derived.Test.YtlebagdildpkmaaA6
set_option linter.unusedVariables false
namespace Go.Proofs.Ytlebagdildpkmaa
open Go.RowKit
set_option maxHeartbeats 800000 in
theorem Ints_q (A A' : Option Addr) (c c' : Nat) (l l' : List Int) (w : World) (h : RI w w.heap.size A l) (h' : RI w w.heap.size A' l') (hn : l.length ≤ maxLen) (hn' : l'.length ≤ maxLen) :
    Calls Try.prog 14 #[.slice A l.length c, .slice A' l'.length c'] w fun e w' => e = .returned (.bool (l == l')) ∧ ∃ n, w' = w.drewN n := by
  unfold maxLen at hn hn'
  by_cases hl : l.length = l'.length
  · have hne : ((l.length : Int) != (l'.length : Int)) = false := by simp [hl]
    obtain ⟨T, hT⟩ : ∃ T, (l == l') = T := ⟨_, rfl⟩
    rw [hT]
    have HT : Hid ((l == l') = T) := hT
    clear hT
    have HL := Lib.hid hl
    clear hl
    go_enter Try.func14, Try.ntmps14
    go_wp2
    go_loopw [5] (fun i wr => ∃ (j q : Nat), j ≤ l.length ∧ i = .int .i64 j ∧ wr = w.drewN q ∧ Hid ((l.drop j == l'.drop j) = T)) (fun i _ => l.length - (intOf i).toNat)
    case atStart => exact ⟨0, 0, Nat.zero_le _, rfl, rfl, HT⟩
    case round =>
      obtain ⟨j, q, hj, rfl, rfl, HJ⟩ := hrel
      by_cases hlt : j < l.length
      · obtain ⟨a1, rfl, _, hc1⟩ := h j hlt
        obtain ⟨a2, rfl, _, hc2⟩ := h' j (by rw [← HL.out]; exact hlt)
        have hlt' : (j : Int) < l.length := by omega
        have hlt2 : (j : Int) < l'.length := by have := HL.out; omega
        have e := HJ.out
        rw [dropI l j hlt, dropI l' j (by rw [← HL.out]; exact hlt)] at e
        generalize l.getD j 0 = u at *
        generalize l'.getD j 0 = v at *
        by_cases huv : u = v
        · subst huv
          have hvv : (u != u) = false := by simp
          have HE : Hid ((l.drop (j + 1) == l'.drop (j + 1)) = T) := by show _ = _; simpa using e
          clear e HJ HT h h'
          go_wp2
          go_quiet (fail)
          go_wp2
          go_roundw
          case rel => exact ⟨j + 1, q + nq, by omega, by go_num, by first | rfl | rw [World.drewN_drewN], HE⟩
          case measure => simp [intOf]; omega
        · have hvv : (u != v) = true := by simp [huv]
          have HE : Hid (false = T) := by show _ = _; rw [← e, List.cons_beq_cons, beq_eq_false_iff_ne.2 huv, Bool.false_and]
          clear e HJ HT h h' huv
          go_wp2
          go_quiet (fail)
          go_wp2
          go_ret
          exact ⟨by rw [← HE.out]; rfl, q + nq, by first | rfl | rw [World.drewN_drewN]⟩
      · have e := HJ.out
        rw [List.drop_of_length_le (by omega), List.drop_of_length_le (by have := HL.out; omega)] at e
        have HE : Hid (true = T) := by show _ = _; simpa using e
        clear e HJ HT h h'
        go_wp2
        go_ret
        exact ⟨by rw [← HE.out]; rfl, q, rfl⟩
  · have hne : ((l.length : Int) != (l'.length : Int)) = true := by simp; omega
    have hf : (l == l') = false := by rw [beq_eq_false_iff_ne]; intro e; exact hl (by rw [e])
    rw [hf]
    clear hl h h'
    go_enter Try.func14, Try.ntmps14
    go_wp2
    go_ret
    exact ⟨rfl, 0, rfl⟩
theorem Ints_any (A A' : Option Addr) (c c' : Nat) (l l' : List Int) (w : World) (h : RI w w.heap.size A l) (h' : RI w w.heap.size A' l') (hn : l.length ≤ maxLen) (hn' : l'.length ≤ maxLen) :
    Calls Try.prog 14 #[.slice A l.length c, .slice A' l'.length c'] w (RetV w (.bool (l == l'))) :=
  (Ints_q A A' c c' l l' w h h' hn hn').mono fun e w' ⟨he, n, hw⟩ => ⟨he, by rw [hw]; exact drw n⟩
/-- Is a literal true at one of these flags, the first of them the k-th? -/
def hit : Nat → List Bool → Int → Bool
  | _, [], _ => false
  | k, b :: t, x => (if b then x == (k : Int) + 1 else x == -(k : Int) - 1) || hit (k + 1) t x
theorem hit_iff (x : Int) : ∀ (t : List Bool) (k : Nat), hit k t x = true ↔ ∃ i, i < t.length ∧ ((t.getD i false = true ∧ x = (k : Int) + i + 1) ∨ (t.getD i false = false ∧ x = -(k : Int) - i - 1))
  | [], k => by simp [hit]
  | b :: t, k => by
    have ih := hit_iff x t (k + 1)
    rw [hit, Bool.or_eq_true, ih]
    constructor
    · rintro (h | ⟨i, h1, h2⟩)
      · refine ⟨0, by simp, ?_⟩
        cases b
        · right; simpa using h
        · left; simpa using h
      · refine ⟨i + 1, by simp; omega, ?_⟩
        rcases h2 with ⟨h2, h3⟩ | ⟨h2, h3⟩
        · left; exact ⟨by simpa using h2, by omega⟩
        · right; exact ⟨by simpa using h2, by omega⟩
    · rintro ⟨i, h1, h2⟩
      cases i with
      | zero =>
        left
        cases b
        · simp at h2; simp [h2]
        · simp at h2; simp [h2]
      | succ i =>
        right
        refine ⟨i, by simp at h1; omega, ?_⟩
        rcases h2 with ⟨h2, h3⟩ | ⟨h2, h3⟩
        · left; exact ⟨by simpa using h2, by omega⟩
        · right; exact ⟨by simpa using h2, by omega⟩
theorem hit_litT (m : List Bool) (x : Int) : hit 0 m x = litT m x := by
  rw [Bool.eq_iff_iff, hit_iff]
  unfold litT
  constructor
  · rintro ⟨i, h1, ⟨h2, h3⟩ | ⟨h2, h3⟩⟩
    · rw [if_pos (by omega), decide_eq_true (by omega)]
      rw [show (x - 1).toNat = i by omega, h2]; rfl
    · rw [if_neg (by omega), decide_eq_true (by omega), decide_eq_true (by omega)]
      rw [show (-x - 1).toNat = i by omega, h2]; rfl
  · intro h
    split at h
    · rename_i h0
      simp only [Bool.and_eq_true, decide_eq_true_eq] at h
      exact ⟨(x - 1).toNat, by omega, .inl ⟨h.2, by omega⟩⟩
    · rename_i h0
      simp only [Bool.and_eq_true, decide_eq_true_eq, Bool.not_eq_true'] at h
      exact ⟨(-x - 1).toNat, by omega, .inr ⟨h.2, by omega⟩⟩
set_option maxHeartbeats 1600000 in
theorem refClause_any (A A' : Option Addr) (c c' : Nat) (l : List Int) (m : List Bool) (w : World) (h : RI w w.heap.size A l) (h' : RB w w.heap.size A' m) (hn : l.length ≤ maxLen) (hm : m.length ≤ maxLen) :
    Calls Try.prog 20 #[.slice A l.length c, .slice A' m.length c'] w (RetS w (.bool (clT l m))) := by
  unfold maxLen at hn hm
  have HR := Lib.hid h
  have HM := Lib.hid h'
  obtain ⟨T, hT⟩ : ∃ T, clT l m = T := ⟨_, rfl⟩
  rw [hT]
  have HT : Hid (clT (l.drop 0) m = T) := hT
  clear hT h h'
  go_enter Try.func20, Try.ntmps20
  go_wp2
  go_loop [5] (fun i => ∃ j : Nat, j ≤ l.length ∧ i = .int .i64 j ∧ Hid (clT (l.drop j) m = T)) (fun i => l.length - (intOf i).toNat)
  case atStart => exact ⟨0, Nat.zero_le _, rfl, HT⟩
  case round =>
    obtain ⟨j, hj, rfl, HJ⟩ := hrel
    clear HT
    by_cases hlt : j < l.length
    · obtain ⟨a1, rfl, _, hc1⟩ := HR.out j hlt
      have hlt' : (j : Int) < l.length := by omega
      have e := HJ.out
      unfold clT at e
      rw [dropI l j hlt, List.any_cons, ← hit_litT] at e
      generalize l.getD j 0 = x at *
      have HU : Hid ((hit 0 (m.drop 0) x || clT (l.drop (j + 1)) m) = T) := e
      clear e HJ
      go_wp2
      go_loop [6] (fun i => ∃ k : Nat, k ≤ m.length ∧ i = .int .i64 k ∧ Hid ((hit k (m.drop k) x || clT (l.drop (j + 1)) m) = T)) (fun i => m.length - (intOf i).toNat)
      case atStart => exact ⟨0, Nat.zero_le _, rfl, HU⟩
      case round =>
        obtain ⟨k, hk, rfl, HK⟩ := hrel
        clear HU
        by_cases hkl : k < m.length
        · obtain ⟨a2, rfl, _, hc2⟩ := HM.out k hkl
          have hkl' : (k : Int) < m.length := by omega
          have e := HK.out
          rw [dropB m k hkl, hit] at e
          generalize m.getD k false = b at *
          clear HK
          cases b
          · rw [if_neg (by simp)] at e
            cases hx : (x == -(k : Int) - 1)
            · have HE : Hid ((hit (k + 1) (m.drop (k + 1)) x || clT (l.drop (j + 1)) m) = T) := by show _ = _; rw [← e, hx]; simp
              clear e
              go_wp2
              go_round
              case rel => exact ⟨k + 1, by omega, by go_num, HE⟩
              case measure => simp [intOf]; omega
            · have HE : Hid (true = T) := by show _ = _; rw [← e, hx]; simp
              clear e
              go_wp2
              go_ret
              exact ⟨by rw [← HE.out]; rfl, rfl⟩
          · rw [if_pos rfl] at e
            cases hx : (x == (k : Int) + 1)
            · have HE : Hid ((hit (k + 1) (m.drop (k + 1)) x || clT (l.drop (j + 1)) m) = T) := by show _ = _; rw [← e, hx]; simp
              clear e
              go_wp2
              go_round
              case rel => exact ⟨k + 1, by omega, by go_num, HE⟩
              case measure => simp [intOf]; omega
            · have HE : Hid (true = T) := by show _ = _; rw [← e, hx]; simp
              clear e
              go_wp2
              go_ret
              exact ⟨by rw [← HE.out]; rfl, rfl⟩
        · have e := HK.out
          rw [List.drop_of_length_le (by omega), hit, Bool.false_or] at e
          have HE : Hid (clT (l.drop (j + 1)) m = T) := e
          clear e HK
          go_wp2
          go_round
          case rel => exact ⟨j + 1, by omega, by go_num, HE⟩
          case measure => simp [intOf]; omega
    · have e := HJ.out
      rw [List.drop_of_length_le (by omega)] at e
      have HE : Hid (false = T) := by show _ = _; simpa [clT] using e
      clear e HJ
      go_wp2
      go_ret
      exact ⟨by rw [← HE.out]; rfl, rfl⟩
set_option maxHeartbeats 1600000 in
theorem refHolds_any (A A' : Option Addr) (c c' : Nat) (N : Int) (L : List (List Int)) (m : List Bool) (w : World) (h : RC w w.heap.size A L) (h' : RB w w.heap.size A' m) (hn : L.length ≤ maxLen) (hm : m.length ≤ maxLen) :
    Calls Try.prog 19 #[.agg #[.int .i64 N, .slice A L.length c], .slice A' m.length c'] w (RetV w (.bool (hoT L m))) := by
  have hb := bal (Below.refl w.heap.size w) (.cells #[.int .i64 N, .slice A L.length c] 35)
  have HB := Lib.hid hb
  have HR := Lib.hid (h.nx hb)
  have HM := Lib.hid (h'.nx hb)
  have HMM := Lib.hid hm
  unfold maxLen at hn hm
  obtain ⟨T, hT⟩ : ∃ T, hoT L m = T := ⟨_, rfl⟩
  rw [hT]
  have HT : Hid (hoT (L.drop 0) m = T) := hT
  obtain ⟨_, q1⟩ := box_cells w (.int .i64 N) (.slice A L.length c) 35
  have qs : w.heap.size < (w.alloc (.cells #[.int .i64 N, .slice A L.length c] 35)).heap.size := by simp
  generalize hw0 : w.alloc (.cells #[.int .i64 N, .slice A L.length c] 35) = w0 at *
  have HW0 := Lib.hid hw0
  clear hT h h' hb hw0
  go_enter Try.func19, Try.ntmps19
  go_wp2
  rw [HW0.out]
  go_loop [5, 6] (fun i _ => ∃ j : Nat, j ≤ L.length ∧ i = .int .i64 j ∧ Hid (hoT (L.drop j) m = T)) (fun i _ => L.length - (intOf i).toNat)
  case atStart => exact ⟨0, Nat.zero_le _, rfl, HT⟩
  case round =>
    obtain ⟨j, hj, rfl, HJ⟩ := hrel
    clear HT
    by_cases hlt : j < L.length
    · obtain ⟨a1, A1, k1, rfl, _, hc1, r1, m1⟩ := HR.out j hlt
      have hlt' : (j : Int) < L.length := by omega
      have e := HJ.out
      unfold hoT at e
      rw [dropC L j hlt, List.all_cons] at e
      have C := refClause_any A1 A' k1 c' _ m w0 r1 HM.out m1 HMM.out
      generalize L.getD j [] = u at *
      clear HJ r1
      cases hx : clT u m
      · rw [hx] at C
        have HE : Hid (false = T) := by show _ = _; rw [← e, hx]; simp
        clear e hx
        go_wp2_with fail
        refine C.mono ?_; rintro e w1 ⟨rfl, rfl⟩
        clear C
        go_wp2
        go_ret
        exact ⟨by rw [← HE.out]; rfl, HB.out⟩
      · rw [hx] at C
        have HE : Hid (hoT (L.drop (j + 1)) m = T) := by show _ = _; rw [← e, hx]; simp [hoT]
        clear e hx
        go_wp2_with fail
        refine C.mono ?_; rintro e w1 ⟨rfl, rfl⟩
        clear C
        go_wp2
        go_round
        case rel => exact ⟨j + 1, by omega, by go_num, HE⟩
        case measure => simp [intOf]; omega
    · have e := HJ.out
      rw [List.drop_of_length_le (by omega)] at e
      have HE : Hid (true = T) := by show _ = _; simpa [hoT] using e
      clear e HJ
      go_wp2
      go_ret
      exact ⟨by rw [← HE.out]; rfl, HB.out⟩

set_option maxHeartbeats 800000 in
theorem In_any (A : Option Addr) (c : Nat) (l : List Int) (n : Int) (w : World) (h : RI w w.heap.size A l) (hn : l.length ≤ maxLen) :
    Calls Try.prog 21 #[.slice A l.length c, .int .i64 n] w (RetS w (.bool (l.contains n))) := by
  unfold maxLen at hn
  have HR := Lib.hid h
  obtain ⟨T, hT⟩ : ∃ T, l.contains n = T := ⟨_, rfl⟩
  rw [hT]
  have HT : Hid ((l.drop 0).contains n = T) := hT
  clear hT h
  go_enter Try.func21, Try.ntmps21
  go_wp2
  go_loop [5] (fun i => ∃ j : Nat, j ≤ l.length ∧ i = .int .i64 j ∧ Hid ((l.drop j).contains n = T)) (fun i => l.length - (intOf i).toNat)
  case atStart => exact ⟨0, Nat.zero_le _, rfl, HT⟩
  case round =>
    obtain ⟨j, hj, rfl, HJ⟩ := hrel
    clear HT
    by_cases hlt : j < l.length
    · obtain ⟨a1, rfl, _, hc1⟩ := HR.out j hlt
      have hlt' : (j : Int) < l.length := by omega
      have e := HJ.out
      rw [dropI l j hlt, List.contains_cons] at e
      generalize l.getD j 0 = x at *
      clear HJ
      by_cases hx : x = n
      · have d : (x == n) = true := by simp [hx]
        have HE : Hid (true = T) := by show _ = _; rw [← e]; simp [hx]
        clear e hx
        go_wp2
        go_ret
        exact ⟨by rw [← HE.out]; rfl, rfl⟩
      · have d : (x == n) = false := by simp [hx]
        have d' : (n == x) = false := by simp; exact fun e => hx e.symm
        have HE : Hid ((l.drop (j + 1)).contains n = T) := by show _ = _; rw [← e, d', Bool.false_or]
        clear e hx d'
        go_wp2
        go_round
        case rel => exact ⟨j + 1, by omega, by go_num, HE⟩
        case measure => simp [intOf]; omega
    · have e := HJ.out
      rw [List.drop_of_length_le (by omega)] at e
      have HE : Hid (false = T) := by show _ = _; simpa using e
      clear e HJ
      go_wp2
      go_ret
      exact ⟨by rw [← HE.out]; rfl, rfl⟩
end Go.Proofs.Ytlebagdildpkmaa
