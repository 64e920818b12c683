/-
  lex.Take over the translated program: what it returns at every slice of at most 1048576 bytes and every place, as a plain function of the bytes behind the place.
-/
import Derived.Test.YtfimacfpgcdekaaDoorW3
set_option linter.unusedVariables false
namespace Go.Proofs.YtfimacfpgcdekaaDoor
open Go.RowKit
theorem min_run (a b : Int) (E : Nat) (h : (if b < a then b else a) = (E : Int)) (ts : Array TypeId) (t : TypeId) (w : World) : (Builtin.min_ ts t #[.int .i64 a, .int .i64 b]).run Tryd.prog w = .ok (.int .i64 E) w := by
  rw [run_min_int2, h]
/-- Numbers of seven bits: at byte i, with n gathered. -/
def takeF : Nat → Int → List UInt8 → Option (Int × Nat)
  | _, _, [] => none
  | i, n, c :: t => if 128 ≤ c.toNat then takeF (i + 1) (n + (c.toNat : Int) % 128 * 2 ^ (7 * i)) t
    else if c.toNat = 0 ∧ 0 < i ∨ 2147483647 < n + (c.toNat : Int) % 128 * 2 ^ (7 * i) then none
    else some (n + (c.toNat : Int) % 128 * 2 ^ (7 * i), i + 1)
def takeR : Option (Int × Nat) → Int × Nat × Int
  | none => (0, 0, 2)
  | some (n, m) => (n, m, 0)
def takeS (t : List UInt8) : Int × Nat × Int := takeR (takeF 0 0 (t.take 5))
theorem pow7 (j : Nat) (h : j ≤ 4) : (0 : Int) < 2 ^ (7 * j) ∧ (2 : Int) ^ (7 * j) ≤ 268435456 := by
  have : j = 0 ∨ j = 1 ∨ j = 2 ∨ j = 3 ∨ j = 4 := by omega
  rcases this with rfl | rfl | rfl | rfl | rfl <;> decide
theorem pow7s (j : Nat) : (2 : Int) ^ (7 * (j + 1)) = 128 * 2 ^ (7 * j) := by
  rw [Nat.mul_add, Int.pow_add]; omega
set_option maxHeartbeats 400000 in
theorem Take_out (A : Option Addr) (n c : Nat) (k : Int) (w : World) (hk : k < 0 ∨ (n : Int) < k) :
    Calls Tryd.prog 12 #[.slice A n c, .int .i64 k] w fun e w' => e = .returned (.tuple #[.int .i64 0, .int .i64 0, .int .i64 2]) ∧ w = w' := by
  have HK : Hid (k < 0 ∨ (n : Int) < k) := hk
  clear hk
  go_enter Tryd.func12, Tryd.ntmps12
  go_wp2_with (go_at_call 24; refine (isPlace_no _ _ _ _ _ HK.out).mono ?_; rintro e w' ⟨rfl, rfl⟩)
  go_ret3
  exact ⟨rfl, rfl⟩
set_option maxHeartbeats 800000 in
theorem Take_any (A : Option Addr) (c k : Nat) (l : List UInt8) (B : Nat) (w : World) (h : Rd w B A l) (hk : k ≤ l.length) (hn : l.length ≤ c) (hc : c ≤ maxLen) (hsm : l.length ≤ 1048576) :
    Calls Tryd.prog 12 #[.slice A l.length c, .int .i64 k] w fun e w' => e = .returned (res3 k (takeS (l.drop k))) ∧ w = w' := by
  unfold maxLen at hc
  obtain ⟨M, hM⟩ : ∃ M, ((l.drop k).take 5).length = M := ⟨_, rfl⟩
  have hM' : M = min 5 (l.length - k) := by rw [← hM]; simp only [List.length_take, List.length_drop]
  obtain ⟨E, hE⟩ : ∃ E, k + M = E := ⟨_, rfl⟩
  have hmn := min_run l.length (k + 5) E (by split <;> omega)
  have hsl := fun wx => slice_lh A l.length c k M (E : Int) (by omega) (by omega) wx
  have hr := h.cut (k := k) (m := 5) hn
  have hM5 : M ≤ 5 := by omega
  unfold takeS
  generalize cutA A c k = A' at *
  generalize c - k = c' at *
  generalize (l.drop k).take 5 = t at *
  have HM : Hid (t.length = M) := hM
  clear h hM hM' hE
  obtain ⟨R, hR⟩ : ∃ R, takeF 0 0 t = R := ⟨_, rfl⟩
  rw [hR]
  have HR : Hid (takeF 0 0 t = R) := hR
  clear hR
  go_enter Tryd.func12, Tryd.ntmps12
  go_wp2_with (first | (go_at_call 24; refine (isPlace_yes _ _ _ _ _ (by omega) (by omega)).mono ?_; rintro e w' ⟨rfl, rfl⟩))
  go_loop [7, 23] (fun n i => ∃ (j : Nat) (m : Int), j ≤ M ∧ 0 ≤ m ∧ Hid (m < 2 ^ (7 * j)) ∧ i = .int .i64 j ∧ n = .int .i64 m ∧ Hid (takeF j m (t.drop j) = R)) (fun _ i => M - (intOf i).toNat)
  case atStart => exact ⟨0, 0, Nat.zero_le _, by omega, (by decide : (0 : Int) < 2 ^ (7 * 0)), rfl, rfl, HR⟩
  case round =>
    obtain ⟨j, m, hj, hm0, hm1, rfl, rfl, HJ⟩ := hrel
    by_cases hlt : j < M
    · obtain ⟨ad, rfl, hb, hc⟩ := hr j (by rw [HM.out]; exact hlt)
      have e := HJ.out
      rw [drop_at t j (by rw [HM.out]; exact hlt), takeF] at e
      have hv : (t.getD j 0).toNat < 256 := (t.getD j 0).toNat_lt
      have hv2 : ((t.getD j 0).toNat : Int) < 256 := by omega
      generalize (t.getD j 0).toNat = v at *
      obtain ⟨p0, p1⟩ := pow7 j (by omega)
      have hm1' := hm1.out
      have ps := pow7s j
      obtain ⟨X, hX⟩ : ∃ X, (v : Int) % 128 * 2 ^ (7 * j) = X := ⟨_, rfl⟩
      rw [hX] at e
      have x0 : 0 ≤ X := by rw [← hX]; exact Int.mul_nonneg (by omega) (by omega)
      have x1 : X ≤ 127 * 2 ^ (7 * j) := by rw [← hX]; exact Int.mul_le_mul_of_nonneg_right (by omega) (by omega)
      have hnext : Hid (m + X < 2 ^ (7 * (j + 1))) := by show _ < _; rw [ps]; omega
      have x2 : X ≤ 34091302912 := by omega
      have m2 : m ≤ 268435456 := by omega
      clear hm1 hm1' ps p0 p1 x1 HJ hr HR HM
      by_cases h128 : (128 : Int) ≤ v
      · rw [if_pos (by omega)] at e
        have HE : Hid (takeF (j + 1) (m + X) (t.drop (j + 1)) = R) := e
        clear e
        go_wp2
        go_round
        case rel => exact ⟨j + 1, m + X, by omega, by omega, hnext, by go_num, by go_num, HE⟩
        case measure => simp [intOf]; omega
      · rw [if_neg (by omega)] at e
        by_cases hbad : v = 0 ∧ 0 < j ∨ 2147483647 < m + X
        · rw [if_pos hbad] at e
          have HE : Hid (none = R) := e
          clear e
          have c3 : (((v : Int) == 0) = true ∧ 0 < j) ∨ (((v : Int) == 0) = true ∧ ¬ 0 < j ∧ 2147483647 < m + X) ∨ (((v : Int) == 0) = false ∧ 2147483647 < m + X) := by
            by_cases hv0 : v = 0
            · have : ((v : Int) == 0) = true := by simp [hv0]
              by_cases hj0 : 0 < j
              · exact .inl ⟨this, hj0⟩
              · exact .inr (.inl ⟨this, hj0, by omega⟩)
            · exact .inr (.inr ⟨by simp [hv0], by omega⟩)
          clear hbad
          rcases c3 with ⟨c1, c2⟩ | ⟨c1, c2, c3⟩ | ⟨c1, c2⟩
          all_goals
            go_wp2
            go_ret3
            exact ⟨by rw [← HE.out]; rfl, rfl⟩
        · rw [if_neg hbad] at e
          have HE : Hid (some (m + X, j + 1) = R) := e
          clear e
          have c3 : (((v : Int) == 0) = true ∧ ¬ 0 < j ∧ ¬ 2147483647 < m + X) ∨ (((v : Int) == 0) = false ∧ ¬ 2147483647 < m + X) := by
            by_cases hv0 : v = 0
            · have : ((v : Int) == 0) = true := by simp [hv0]
              exact .inl ⟨this, by omega, by omega⟩
            · exact .inr ⟨by simp [hv0], by omega⟩
          clear hbad
          have ek : (k : Int) + j + 1 = ((k + (j + 1) : Nat) : Int) := by omega
          have HK : Hid ((k : Int) + j + 1 = ((k + (j + 1) : Nat) : Int)) := ek
          clear ek
          rcases c3 with ⟨c1, c2, c3⟩ | ⟨c1, c2⟩
          all_goals
            go_wp2
            go_ret3
            exact ⟨by rw [← HE.out]; show Ending.returned (.tuple #[_, .int .i64 _, _]) = Ending.returned (.tuple #[_, .int .i64 ((k + (j + 1) : Nat) : Int), _]); rw [← HK.out]; rfl, rfl⟩
    · have e := HJ.out
      rw [List.drop_of_length_le (by rw [HM.out]; omega), takeF] at e
      have HE : Hid (none = R) := e
      clear e HJ HR HM hr hm1
      go_wp2
      go_ret3
      exact ⟨by rw [← HE.out]; rfl, rfl⟩
end Go.Proofs.YtfimacfpgcdekaaDoor
