/-
  vidimusref02's shift over the translated program, and its numbers. Nothing is assumed.
-/
import Derived.Test.YtnnoflohekmnbaaProg
import Derived.WalkKit
import Derived.WalkSpells
import Derived.WalkLawsBesides
import Derived.LoopN
import Derived.IntWalk
import Derived.Lib.Hide
import Derived.Test.YtnnoflohekmnbaaN3
import Derived.Laws.BitsAllLaws
import Derived.Laws.Externs
import Derived.BigQuiet
import Derived.BigRegion
import Derived.Deep.QuietTactic
import Derived.Deep.RegionWith
import Derived.Deep.RegionHeld3
import Derived.StillTailTactics
import Derived.RegionTactic
import Derived.ChangeAlike
set_option linter.unusedVariables false
namespace Go.Proofs.Ytnnoflohekmnbaa
open Go.RowKit
/-- Bits n places further up, what comes in told: the first j. -/
def shL (l : List Bool) (n : Int) (b : Bool) (j : Nat) : List Bool := (List.range j).map (fun i : Nat => if 0 ≤ (i : Int) - n ∧ (i : Int) - n < l.length then l.getD ((i : Int) - n).toNat false else b)
theorem shL_succ (l : List Bool) (n : Int) (b : Bool) (j : Nat) : shL l n b (j + 1) = shL l n b j ++ [if 0 ≤ (j : Int) - n ∧ (j : Int) - n < l.length then l.getD ((j : Int) - n).toNat false else b] := by
  unfold shL; rw [List.range_succ, List.map_append]; rfl
theorem shL_len (l : List Bool) (n : Int) (b : Bool) (j : Nat) : (shL l n b j).length = j := by simp [shL]
set_option maxRecDepth 100000 in
set_option maxHeartbeats 1600000 in
theorem refShift_any (A : Option Addr) (c : Nat) (l : List Bool) (n : Int) (b : Bool) (w : World) (h : RB w w.heap.size A l) (hn : l.length ≤ 1000) (h1 : -1000 ≤ n) (h2 : n ≤ 1000) :
    Calls Try.prog 84 #[.slice A l.length c, .int .i64 n, .bool b] w (fun e w' => ∃ v, e = .returned v ∧ OwnB w' w.heap.size v (shL l n b l.length) ∧ Below w.heap.size w w') := by
  go_enter Try.func84, Try.ntmps84
  go_wp2
  go_loopw [7, 8] (fun v i wr => ∃ (j : Nat) (o : List Bool), j ≤ l.length ∧ i = .int .i64 j ∧ Hid (o = shL l n b j) ∧ o.length = j ∧ OwnB wr w.heap.size v o ∧ Below w.heap.size w wr) (fun _ i _ => l.length - (intOf i).toNat)
  case atStart => exact ⟨0, [], Nat.zero_le _, rfl, rfl, rfl, OwnB.nil _ _, Below.refl _ _⟩
  case round =>
    obtain ⟨j, o, hj, rfl, HO, hoj, hown, hb⟩ := hrel
    by_cases hlt : j < l.length
    · have HE : Hid (o ++ [if 0 ≤ (j : Int) - n ∧ (j : Int) - n < l.length then l.getD ((j : Int) - n).toNat false else b] = shL l n b (j + 1)) := by show _ = _; rw [shL_succ, HO.out]
      by_cases h0 : 0 ≤ (j : Int) - n
      · by_cases h3 : (j : Int) - n < l.length
        · rw [if_pos ⟨h0, h3⟩] at HE
          obtain ⟨t, ht⟩ : ∃ t : Nat, (j : Int) - n = (t : Int) := ⟨((j : Int) - n).toNat, by omega⟩
          rw [ht] at HE h0 h3
          have et : ((t : Int)).toNat = t := by omega
          rw [et] at HE
          obtain ⟨ad, rfl, hbk, hc⟩ := h t (by omega)
          replace hc := (hb.cell (by rw [blk_add]; exact hbk)).trans hc
          generalize l.getD t false = x at *
          have d1 : decide ((0 : Int) ≤ (t : Int)) = true := decide_eq_true h0
          have d2 : decide ((t : Int) < (l.length : Int)) = true := decide_eq_true h3
          clear HO h
          go_wp2_with (first
            | (at_builtin; refine wpB1 rfl (.tmp 27) (.tmp 34) rfl _ o rfl hown x rfl hb ?c1 ?_))
          case c1 => omega
          intro v' w1 hown' hb'
          go_wp2
          go_roundw
          case rel => exact ⟨j + 1, _, by omega, by go_num, HE, by simp [hoj], hown', hb'⟩
          case measure => simp [intOf]; omega
        · rw [if_neg (by omega)] at HE
          have d1 : decide ((0 : Int) ≤ (j : Int) - n) = true := decide_eq_true h0
          have d2 : decide ((j : Int) - n < (l.length : Int)) = false := decide_eq_false h3
          clear HO h
          go_wp2_with (first
            | (at_builtin; refine wpB1 rfl (.tmp 36) (.tmp 38) rfl _ o rfl hown b rfl hb ?c1 ?_))
          case c1 => omega
          intro v' w1 hown' hb'
          go_wp2
          go_roundw
          case rel => exact ⟨j + 1, _, by omega, by go_num, HE, by simp [hoj], hown', hb'⟩
          case measure => simp [intOf]; omega
      · rw [if_neg (by omega)] at HE
        have d1 : decide ((0 : Int) ≤ (j : Int) - n) = false := decide_eq_false h0
        clear HO h
        go_wp2_with (first
          | (at_builtin; refine wpB1 rfl (.tmp 36) (.tmp 38) rfl _ o rfl hown b rfl hb ?c1 ?_))
        case c1 => omega
        intro v' w1 hown' hb'
        go_wp2
        go_roundw
        case rel => exact ⟨j + 1, _, by omega, by go_num, HE, by simp [hoj], hown', hb'⟩
        case measure => simp [intOf]; omega
    · obtain rfl : j = l.length := by omega
      have HE : Hid (o = shL l n b l.length) := HO
      clear HO h
      go_wp2
      go_ret
      exact ⟨_, rfl, by rw [← HE.out]; exact hown, hb⟩
theorem shL_get (l : List Bool) (n : Int) (b : Bool) (j i : Nat) (h : i < j) : (shL l n b j).getD i false = if 0 ≤ (i : Int) - n ∧ (i : Int) - n < l.length then l.getD ((i : Int) - n).toNat false else b := by
  simp [shL, List.getD_eq_getElem?_getD, h]
theorem getD_out (l : List Bool) (i : Nat) (h : l.length ≤ i) : l.getD i false = false := by simp [List.getD_eq_getElem?_getD, List.getElem?_eq_none h]
/-- Up by k: a number times a power. -/
theorem nb_sll (l : List Bool) (k : Nat) : nb (shL l k false l.length) = nb l * 2 ^ k % 2 ^ l.length := by
  apply Nat.eq_of_testBit_eq
  intro i
  rw [nb_bit, Nat.testBit_mod_two_pow, Nat.testBit_mul_two_pow, nb_bit]
  by_cases h : i < l.length
  · rw [shL_get _ _ _ _ _ h]
    by_cases hk : k ≤ i
    · rw [if_pos (by omega)]
      have : ((i : Int) - k).toNat = i - k := by omega
      simp [h, hk]; try rw [this]
    · rw [if_neg (by omega)]; simp [hk]
  · rw [getD_out _ _ (by rw [shL_len]; omega)]; simp [h]
/-- Down by k. -/
theorem nb_srl (l : List Bool) (k : Nat) : nb (shL l (-(k : Int)) false l.length) = nb l / 2 ^ k := by
  apply Nat.eq_of_testBit_eq
  intro i
  rw [nb_bit, Nat.testBit_div_two_pow, nb_bit]
  by_cases h : i < l.length
  · rw [shL_get _ _ _ _ _ h]
    by_cases hk : i + k < l.length
    · rw [if_pos (by omega)]
      have : ((i : Int) - -(k : Int)).toNat = i + k := by omega
      rw [this]
    · rw [if_neg (by omega), getD_out _ _ (by omega)]
  · rw [getD_out _ _ (by rw [shL_len]; omega), getD_out _ _ (by omega)]
/-- Down by k, with a bit that comes in: bit by bit. -/
theorem bit_sra (l : List Bool) (k : Nat) (b : Bool) (i : Nat) (h : i < l.length) : (nb (shL l (-(k : Int)) b l.length)).testBit i = if i + k < l.length then (nb l).testBit (i + k) else b := by
  rw [nb_bit, shL_get _ _ _ _ _ h, nb_bit]
  by_cases hk : i + k < l.length
  · rw [if_pos hk, if_pos (by omega)]
    have : ((i : Int) - -(k : Int)).toNat = i + k := by omega
    rw [this]
  · rw [if_neg hk, if_neg (by omega)]
/-- Up by one, with a bit that comes in. -/
theorem nb_up1 (l : List Bool) (b : Bool) : nb (shL l 1 b l.length) = (2 * nb l + bn b) % 2 ^ l.length := by
  apply Nat.eq_of_testBit_eq
  intro i
  rw [nb_bit, Nat.testBit_mod_two_pow]
  have hcons : 2 * nb l + bn b = nb (b :: l) := by rw [nb]; omega
  rw [hcons, nb_bit]
  by_cases h : i < l.length
  · rw [shL_get _ _ _ _ _ h]
    rcases i with _ | i
    · rw [if_neg (by omega)]; simp [h]
    · rw [if_pos (by omega)]
      simp [h]
  · rw [getD_out _ _ (by rw [shL_len]; omega)]; simp [h]
end Go.Proofs.Ytnnoflohekmnbaa
