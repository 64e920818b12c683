/-
  vidimusref01.IsName, Name, Take and Put over the translated program: what each returns, as the same plain functions that the project's own calls return.
-/
import Derived.Test.YtfimacfpgcdekaaDoorM3
import Derived.Test.YtfimacfpgcdekaaDoorW9
set_option linter.unusedVariables false
namespace Go.Proofs.YtfimacfpgcdekaaDoor
open Go.RowKit
theorem longL_le (l : List UInt8) : longL l ≤ 4 := by
  have he : ∀ n least (R : Option Nat), longE n least R ≤ n := by
    intro n least R
    cases R with
    | none => exact Nat.zero_le _
    | some c => rw [longE]; split <;> omega
  cases l with
  | nil => simp [longL]
  | cons b t =>
    rw [longL]
    split
    · exact he _ _ _
    · split
      · exact Nat.le_trans (he _ _ _) (by omega)
      · split
        · exact Nat.le_trans (he _ _ _) (by omega)
        · split <;> omega
set_option maxRecDepth 100000 in
set_option maxHeartbeats 1600000 in
theorem IsNameR_any (s : ByteArray) (w : World) (hs : s.size ≤ 1048576) :
    Calls Tryd.prog 15 #[.string s] w fun e w' => e = .returned (.bool (isNm s.data.toList)) ∧ w = w' := by
  have HZ : Hid (s.data.toList.length = s.size) := by show _ = _; rw [Array.length_toList]; rfl
  obtain ⟨R, hR⟩ : ∃ R, isNm s.data.toList = R := ⟨_, rfl⟩
  rw [hR]
  have HR : Hid (nmR s.size 0 (s.data.toList.drop 0) = R) := by show _ = _; rw [List.drop_zero, ← HZ.out, nmR_isNm]; exact hR
  clear hR
  go_enter Tryd.func15, Tryd.ntmps15
  go_wp2
  go_loop [3, 4] (fun mm ii => ∃ (i m b : Nat), mm = .int .i64 m ∧ ii = .int .i64 i ∧ m ≤ i ∧ i ≤ s.size + 4 ∧ s.size ≤ i + b ∧ Hid (nmR b m (s.data.toList.drop i) = R)) (fun _ ii => s.size - (intOf ii).toNat)
  case atStart => exact ⟨0, 0, s.size, rfl, rfl, by omega, by omega, by omega, HR⟩
  case round =>
    obtain ⟨i, m, b, rfl, rfl, hmi, hi4, hib, HJ⟩ := hrel
    have e := HJ.out
    by_cases hlt : i < s.size
    · obtain ⟨b', rfl⟩ : ∃ b', b = b' + 1 := ⟨b - 1, by omega⟩
      have cL := Long_any s i w hlt (by omega)
      have hix := fun wx => str_index s i i rfl hlt wx
      have hne : s.data.toList.drop i ≠ [] := by rw [drop_at _ i (by rw [HZ.out]; exact hlt)]; simp
      have hg0 : (s.data.toList.drop i).getD 0 0 = s.data.toList.getD i 0 := by simp [List.getD_eq_getElem?_getD]
      rw [nmR, if_neg hne, hg0, List.drop_drop] at e
      have hL4 := longL_le (s.data.toList.drop i)
      have hlt' : (i : Int) < s.size := by omega
      generalize longL (s.data.toList.drop i) = L at *
      generalize (s.data.toList.getD i 0).toNat = v at *
      clear hne hg0 HJ HR
      by_cases hbad : L = 0 ∨ v < 32 ∨ v = 127
      · rw [if_pos hbad] at e
        have HE : Hid (false = R) := e
        have hcase : ((L : Int) == 0) = true ∨ (((L : Int) == 0) = false ∧ decide ((v : Int) < 32) = true) ∨ (((L : Int) == 0) = false ∧ decide ((v : Int) < 32) = false ∧ ((v : Int) == 127) = true) := by
          simp only [beq_iff_eq, beq_eq_false_iff_ne, decide_eq_true_eq, decide_eq_false_iff_not, ne_eq]; omega
        clear e hbad
        rcases hcase with g1 | ⟨g1, g2⟩ | ⟨g1, g2, g3⟩
        all_goals
          go_wp2_with (go_at_call 28; refine cL.mono ?_; rintro e w' ⟨rfl, rfl⟩)
          go_ret
          exact ⟨by rw [← HE.out]; rfl, rfl⟩
      · rw [if_neg hbad] at e
        have HE : Hid (nmR b' (m + 1) (s.data.toList.drop (i + L)) = R) := e
        have g1 : ((L : Int) == 0) = false := by rw [beq_eq_false_iff_ne]; omega
        have g2 : decide ((v : Int) < 32) = false := decide_eq_false (by omega)
        have g3 : ((v : Int) == 127) = false := by rw [beq_eq_false_iff_ne]; omega
        have hL1 : 1 ≤ L := by omega
        clear e hbad
        go_wp2_with (go_at_call 28; refine cL.mono ?_; rintro e w' ⟨rfl, rfl⟩)
        go_round
        case rel => exact ⟨i + L, m + 1, b', by go_num, by go_num, by omega, by omega, by omega, HE⟩
        case measure => simp [intOf]; omega
    · have hnil : s.data.toList.drop i = [] := List.drop_of_length_le (by rw [HZ.out]; omega)
      rw [hnil] at e
      have HE : Hid (decide (1 ≤ m ∧ m ≤ 40) = R) := by
        cases b with
        | zero => exact e
        | succ b => rw [nmR, if_pos rfl] at e; exact e
      clear e HJ HR hnil
      by_cases h1 : 1 ≤ m
      · have h1' : (1 : Int) ≤ m := by omega
        by_cases h40 : m ≤ 40
        · have h40' : (m : Int) ≤ 40 := by omega
          have HF : Hid (true = R) := by rw [← HE.out]; exact (decide_eq_true ⟨h1, h40⟩).symm
          go_wp2
          go_ret
          exact ⟨by rw [← HF.out]; rfl, rfl⟩
        · have h40' : decide ((m : Int) ≤ 40) = false := decide_eq_false (by omega)
          have HF : Hid (false = R) := by rw [← HE.out]; exact (decide_eq_false (by omega)).symm
          go_wp2
          go_ret
          exact ⟨by rw [← HF.out]; rfl, rfl⟩
      · have h1' : decide ((1 : Int) ≤ m) = false := decide_eq_false (by omega)
        have HF : Hid (false = R) := by rw [← HE.out]; exact (decide_eq_false (by omega)).symm
        obtain rfl : m = 0 := by omega
        clear h1' h1
        go_wp2
        go_ret
        exact ⟨by rw [← HF.out]; rfl, rfl⟩
end Go.Proofs.YtfimacfpgcdekaaDoor
