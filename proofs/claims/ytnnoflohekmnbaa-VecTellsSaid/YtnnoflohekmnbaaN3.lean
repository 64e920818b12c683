/-
  vidimusref02's add, flag, many, less and far over the translated program. Nothing is assumed.
-/
import Derived.Test.YtnnoflohekmnbaaProg
import Derived.WalkKit
import Derived.WalkSpells
import Derived.WalkLawsBesides
import Derived.LoopN
import Derived.IntWalk
import Derived.Lib.Hide
import Derived.Test.YtnnoflohekmnbaaN2
import Derived.Laws.BitsAllLaws
import Derived.Laws.Externs
import Derived.BigQuiet
import Derived.BigRegion
import Derived.Deep.QuietTactic
import Derived.Deep.RegionWith
import Derived.Deep.RegionHeld3
import Derived.StillTailTactics
import Derived.RegionTactic
import Derived.ChangeAlike
set_option linter.unusedVariables false
namespace Go.Proofs.Ytnnoflohekmnbaa
open Go.RowKit
theorem add_rel (o a b : List Bool) (j S : Nat) (x y k : Bool) (ho : o.length = j) (ha : j < a.length) (hb : j < b.length) (hx : a.getD j false = x) (hy : b.getD j false = y) (h : nb o + 2 ^ j * bn k = nb (a.take j) + nb (b.take j) + S) :
    nb (o ++ [decide ((bn x + bn y + bn k) % 2 = 1)]) + 2 ^ (j + 1) * bn (decide (2 ≤ bn x + bn y + bn k)) = nb (a.take (j + 1)) + nb (b.take (j + 1)) + S := by
  rw [nb_snoc, nb_take a j ha, nb_take b j hb, hx, hy, ho, Nat.pow_succ]
  generalize 2 ^ j = P at *
  cases x <;> cases y <;> cases k <;> simp [bn] at * <;> omega
set_option maxRecDepth 100000 in
set_option maxHeartbeats 1600000 in
theorem refAdd_any (A A' : Option Addr) (c c' : Nat) (a b : List Bool) (k0 : Bool) (w : World) (h : RB w w.heap.size A a) (h' : RB w w.heap.size A' b) (hab : b.length = a.length) (hn : a.length ≤ 1000) :
    Calls Try.prog 43 #[.slice A a.length c, .slice A' a.length c', .bool k0] w (RetBs w a.length ((nb a + nb b + bn k0) % 2 ^ a.length)) := by
  obtain ⟨S, hS⟩ : ∃ S, (nb a + nb b + bn k0) % 2 ^ a.length = S := ⟨_, rfl⟩
  rw [hS]
  have HS := Lib.hid hS
  clear hS
  go_enter Try.func43, Try.ntmps43
  go_wp2
  go_loopw [2, 7, 8] (fun cy v i wr => ∃ (j : Nat) (o : List Bool) (k : Bool), j ≤ a.length ∧ i = .int .i64 j ∧ cy = .bool k ∧ Hid (nb o + 2 ^ j * bn k = nb (a.take j) + nb (b.take j) + bn k0) ∧ o.length = j ∧ OwnB wr w.heap.size v o ∧ Below w.heap.size w wr) (fun _ _ i _ => a.length - (intOf i).toNat)
  case atStart => exact ⟨0, [], k0, Nat.zero_le _, rfl, rfl, by show _ = _; simp [nb], rfl, OwnB.nil _ _, Below.refl _ _⟩
  case round =>
    obtain ⟨j, o, k, hj, rfl, rfl, HO, hoj, hown, hb⟩ := hrel
    by_cases hlt : j < a.length
    · obtain ⟨ad, rfl, hbk, hc⟩ := h j hlt
      replace hc := (hb.cell (by rw [blk_add]; exact hbk)).trans hc
      obtain ⟨ad', rfl, hbk', hc'⟩ := h' j (by omega)
      replace hc' := (hb.cell (by rw [blk_add]; exact hbk')).trans hc'
      have HE : ∀ x y, a.getD j false = x → b.getD j false = y → Hid (nb (o ++ [decide ((bn x + bn y + bn k) % 2 = 1)]) + 2 ^ (j + 1) * bn (decide (2 ≤ bn x + bn y + bn k)) = nb (a.take (j + 1)) + nb (b.take (j + 1)) + bn k0) :=
        fun x y hx hy => add_rel o a b j _ x y k hoj hlt (by omega) hx hy HO.out
      replace HE := HE _ _ rfl rfl
      generalize a.getD j false = x at *
      generalize b.getD j false = y at *
      clear HO h h' HS
      cases x <;> cases y <;> cases k
      all_goals
        go_wp2_with (first
          | (at_builtin; refine wpB1 rfl (.tmp 31) (.tmp 35) rfl _ o rfl hown _ rfl hb ?c1 ?_))
        case c1 => omega
        intro v' w1 hown' hb'
        go_wp2
        go_roundw
        case rel => exact ⟨j + 1, _, _, by omega, by go_num, rfl, HE, by simp [hoj], hown', hb'⟩
        case measure => simp [intOf]; omega
    · obtain rfl : j = a.length := by omega
      have HE : Hid (nb o = S) := by
        show _ = _
        rw [← HS.out]
        have e := HO.out
        rw [List.take_length, ← hab, List.take_length, hab] at e
        have := nb_lt o
        rw [hoj] at this
        exact add_end _ _ _ _ this e
      clear HO h h' HS
      go_wp2
      go_ret
      exact ⟨_, o, rfl, hoj, HE.out, hown, hb⟩
set_option maxHeartbeats 400000 in
theorem refFlag_any (b : Bool) (w : World) : Calls Try.prog 45 #[.bool b] w (RetBs w 1 (bn b)) := by
  go_enter Try.func45, Try.ntmps45
  go_wp2
  go_ret
  refine ⟨_, [b], rfl, rfl, by cases b <;> rfl, ?_, bal (Below.refl _ _) _⟩
  exact World.ownsRow_lit (base := w.heap.size) (e := 4) (size := 1) w #[.bool b] 1 (Nat.le_refl _) (by unfold maxLen; omega) rfl
/-- How many are 1. -/
def ct : List Bool → Nat
  | [] => 0
  | b :: t => bn b + ct t
theorem ct_le : ∀ l : List Bool, ct l ≤ l.length
  | [] => Nat.le_refl _
  | b :: t => by have := ct_le t; have := bn_le b; simp only [ct, List.length_cons]; omega
theorem ct_drop (l : List Bool) (j : Nat) (h : j < l.length) : ct (l.drop j) = bn (l.getD j false) + ct (l.drop (j + 1)) := by rw [drop_succ_ l j h, ct]
set_option maxHeartbeats 800000 in
theorem refMany_any (A : Option Addr) (c : Nat) (l : List Bool) (w : World) (h : RB w w.heap.size A l) (hn : l.length ≤ 1000) :
    Calls Try.prog 46 #[.slice A l.length c] w fun e w' => e = .returned (.int .i64 (ct l : Nat)) ∧ w = w' := by
  obtain ⟨T, hT⟩ : ∃ T, ct l = T := ⟨_, rfl⟩
  have hT2 : T ≤ l.length := hT ▸ ct_le l
  rw [hT]
  have HT := Lib.hid hT
  clear hT
  go_enter Try.func46, Try.ntmps46
  go_wp2
  go_loop [3, 4] (fun n i => ∃ j m : Nat, j ≤ l.length ∧ m ≤ j ∧ n = .int .i64 m ∧ i = .int .i64 j ∧ Hid (m + ct (l.drop j) = T)) (fun _ i => l.length - (intOf i).toNat)
  case atStart => exact ⟨0, 0, Nat.zero_le _, Nat.le_refl _, rfl, rfl, by show _ = _; simpa using HT.out⟩
  case round =>
    obtain ⟨j, m, hj, hm, rfl, rfl, HJ⟩ := hrel
    by_cases hlt : j < l.length
    · obtain ⟨ad, rfl, hbk, hc⟩ := h j hlt
      have HE : Hid (m + bn (l.getD j false) + ct (l.drop (j + 1)) = T) := by show _ = _; have e := HJ.out; rw [ct_drop l j hlt] at e; omega
      generalize l.getD j false = x at *
      clear HJ h HT
      cases x
      · go_wp2
        go_round
        case rel => exact ⟨j + 1, m, by omega, by omega, rfl, by go_num, HE⟩
        case measure => simp [intOf]; omega
      · go_wp2
        go_round
        case rel => exact ⟨j + 1, m + 1, by omega, by omega, by go_num, by go_num, HE⟩
        case measure => simp [intOf]; omega
    · have HE : Hid (m = T) := by show _ = _; have e := HJ.out; rw [List.drop_of_length_le (by omega)] at e; simpa [ct] using e
      clear HJ h HT
      go_wp2
      go_ret
      exact ⟨by rw [HE.out]; rfl, rfl⟩
set_option maxRecDepth 100000 in
set_option maxHeartbeats 800000 in
theorem refLess_any (A A' : Option Addr) (c c' : Nat) (a b : List Bool) (w : World) (h : RB w w.heap.size A a) (h' : RB w w.heap.size A' b) (hab : b.length = a.length) (hn : a.length ≤ 1000) :
    Calls Try.prog 86 #[.slice A a.length c, .slice A' a.length c'] w (RetV w (.bool (decide (nb a < nb b)))) := by
  obtain ⟨T, hT⟩ : ∃ T, decide (nb a < nb b) = T := ⟨_, rfl⟩
  rw [hT]
  have HT := Lib.hid hT
  clear hT
  go_enter Try.func86, Try.ntmps86
  go_wp2
  go_loopw [5] (fun i wr => ∃ j : Nat, j ≤ a.length ∧ i = .int .i64 ((j : Int) - 1) ∧ Hid (decide (nb (a.take j) < nb (b.take j)) = T) ∧ Below w.heap.size w wr) (fun i _ => (intOf i + 1).toNat)
  case atStart => exact ⟨a.length, Nat.le_refl _, rfl, by show _ = _; rw [List.take_length, ← hab, List.take_length]; exact HT.out, Below.refl _ _⟩
  case round =>
    obtain ⟨j, hj, rfl, HJ, hb⟩ := hrel
    rcases j with _ | j
    · have HE : Hid (false = T) := by show _ = _; rw [← HJ.out]; simp
      clear HJ h h' HT
      rw [show ((0 : Nat) : Int) - 1 = -1 from rfl]
      go_wp2
      go_ret
      exact ⟨by rw [HE.out]; rfl, hb⟩
    · have e1 : ((j + 1 : Nat) : Int) - 1 = (j : Int) := by omega
      rw [e1]
      obtain ⟨ad, rfl, hbk, hc⟩ := h j (by omega)
      replace hc := (hb.cell (by rw [blk_add]; exact hbk)).trans hc
      obtain ⟨ad', rfl, hbk', hc'⟩ := h' j (by omega)
      replace hc' := (hb.cell (by rw [blk_add]; exact hbk')).trans hc'
      have HE : Hid ((if a.getD j false = b.getD j false then decide (nb (a.take j) < nb (b.take j)) else b.getD j false) = T) := (less_step a b j (by omega) (by omega)).symm.trans HJ.out
      generalize a.getD j false = x at *
      generalize b.getD j false = y at *
      clear HJ h h' HT
      by_cases hxy : x = y
      · subst hxy
        have HF : Hid (decide (nb (a.take j) < nb (b.take j)) = T) := by have e := HE.out; rwa [if_pos rfl] at e
        clear HE
        go_wp2_with fail
        go_quiet (fail)
        go_wp2
        go_roundw
        case rel => exact ⟨j, by omega, rfl, HF, below_drewN hb _⟩
        case measure => (simp [intOf] <;> omega)
      · have HF : Hid (y = T) := by have e := HE.out; rwa [if_neg hxy] at e
        have e3 : (x == y) = false := by simp [hxy]
        clear HE hxy
        go_wp2_with fail
        go_quiet (fail)
        go_wp2
        go_ret
        exact ⟨by rw [HF.out]; rfl, below_drewN hb _⟩
theorem min_runB (a b E : Int) (h : (if b < a then b else a) = E) (ts : Array TypeId) (t : TypeId) (w : World) : (Builtin.min_ ts t #[.int .i64 a, .int .i64 b]).run Try.prog w = .ok (.int .i64 E) w := by
  rw [run_min_int2, h]
set_option maxHeartbeats 800000 in
theorem refFar_any (A : Option Addr) (c : Nat) (l : List Bool) (w : World) (h : RB w w.heap.size A l) (hn : l.length ≤ 1000) :
    Calls Try.prog 85 #[.slice A l.length c] w fun e w' => e = .returned (.int .i64 ((min (nb l) l.length : Nat) : Int)) ∧ w = w' := by
  obtain ⟨T, hT⟩ : ∃ T, min (nb l) l.length = T := ⟨_, rfl⟩
  rw [hT]
  have HT := Lib.hid hT
  clear hT
  go_enter Try.func85, Try.ntmps85
  go_wp2
  go_loop [3, 4] (fun n i => ∃ j m : Nat, j ≤ l.length ∧ m ≤ 2 * l.length ∧ n = .int .i64 m ∧ i = .int .i64 ((j : Int) - 1) ∧ Hid (m = min (nb (l.drop j)) (2 * l.length))) (fun _ i => (intOf i + 1).toNat)
  case atStart => exact ⟨l.length, 0, Nat.le_refl _, Nat.zero_le _, rfl, rfl, by show _ = _; rw [List.drop_length]; simp [nb]⟩
  case round =>
    obtain ⟨j, m, hj, hm, rfl, rfl, HJ⟩ := hrel
    rcases j with _ | j
    · have hE : (if (l.length : Int) < (m : Int) then (l.length : Int) else (m : Int)) = (T : Int) := by
        have e := HJ.out
        have e2 := HT.out
        rw [List.drop_zero] at e
        split <;> omega
      have hmn := min_runB m l.length T hE
      clear HJ h HT hE
      rw [show ((0 : Nat) : Int) - 1 = -1 from rfl]
      go_wp2
      go_ret
      exact ⟨rfl, rfl⟩
    · have e1 : ((j + 1 : Nat) : Int) - 1 = (j : Int) := by omega
      rw [e1]
      obtain ⟨ad, rfl, hbk, hc⟩ := h j (by omega)
      obtain ⟨M, hM⟩ : ∃ M : Nat, min (m * 2 + bn (l.getD j false)) (2 * l.length) = M := ⟨_, rfl⟩
      have HE : Hid (M = min (nb (l.drop j)) (2 * l.length)) := by
        show _ = _
        rw [nb_drop l j (by omega), ← hM, HJ.out]
        exact far_step _ _ _
      generalize l.getD j false = x at *
      have hM2 : M ≤ 2 * l.length := by omega
      clear HJ h HT
      cases x
      · have hmn := min_runB ((m : Int) * 2) (2 * (l.length : Int)) M (by simp [bn] at hM; split <;> omega)
        clear hM
        go_wp2
        go_round
        case rel => exact ⟨j, M, by omega, hM2, rfl, rfl, HE⟩
        case measure => (simp [intOf] <;> omega)
      · have hmn := min_runB ((m : Int) * 2 + 1) (2 * (l.length : Int)) M (by simp [bn] at hM; split <;> omega)
        clear hM
        go_wp2
        go_round
        case rel => exact ⟨j, M, by omega, hM2, rfl, rfl, HE⟩
        case measure => (simp [intOf] <;> omega)
end Go.Proofs.Ytnnoflohekmnbaa
