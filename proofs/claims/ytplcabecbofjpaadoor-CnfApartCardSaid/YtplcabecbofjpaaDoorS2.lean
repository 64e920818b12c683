/-
  cnf.Clause and what it calls over the translated program.
-/
import Derived.Test.YtplcabecbofjpaaDoorProg
import Derived.WalkKit
import Derived.WalkSpells
import Derived.WalkLawsBesides
import Derived.Lib.Hide
import Derived.BigQuiet
import Derived.Deep.QuietTactic
import Derived.Deep.RegionWith
import Derived.Deep.RegionHeld3
import Derived.Test.YtplcabecbofjpaaDoorS1
set_option linter.unusedVariables false
namespace Go.Proofs.YtplcabecbofjpaaDoor
open Go.RowKit
set_option maxHeartbeats 400000 in
theorem isTrue_any (g : Nat) (x : Int) (A : Option Addr) (c : Nat) (m : List Bool) (w : World) (hc : w.cell? ⟨g, 0, none⟩ = some (.slice A m.length c)) (h : RB w w.heap.size A m) (hn : m.length ≤ maxLen) :
    Calls Tryd.prog 67 #[.int .i64 x, .pointer (some ⟨g, 0, none⟩)] w (RetS w (.bool (litT m x))) := by
  unfold maxLen at hn
  unfold litT
  by_cases h0 : 0 < x
  · rw [if_pos h0]
    by_cases h1 : x ≤ m.length
    · obtain ⟨ad, rfl, hb, hcell⟩ := h (x - 1).toNat (by omega)
      have h1' : decide (x ≤ (m.length : Int)) = true := decide_eq_true h1
      rw [h1', Bool.true_and]
      have hx1 : 0 ≤ x - 1 := by omega
      have hx2 : x - 1 < (m.length : Int) := by omega
      have hx3 : 1 ≤ x := by omega
      have e1 : (x - 1).toNat = x.toNat - 1 := by omega
      rw [e1] at hcell ⊢
      clear e1
      generalize m.getD (x.toNat - 1) false = v at *
      clear h
      go_enter Tryd.func67, Tryd.ntmps67
      go_wp2
      go_ret
      exact ⟨rfl, rfl⟩
    · have h1' : decide (x ≤ (m.length : Int)) = false := decide_eq_false h1
      rw [h1', Bool.false_and]
      clear h
      go_enter Tryd.func67, Tryd.ntmps67
      go_wp2
      go_ret
      exact ⟨rfl, rfl⟩
  · rw [if_neg h0]
    have h0' : decide (0 < x) = false := decide_eq_false h0
    by_cases h2 : x < 0
    · have h2' : decide (x < 0) = true := decide_eq_true h2
      by_cases h1 : -(m.length : Int) ≤ x
      · obtain ⟨ad, rfl, hb, hcell⟩ := h (-x - 1).toNat (by omega)
        have h1' : decide (-(m.length : Int) ≤ x) = true := decide_eq_true h1
        rw [h1', h2', Bool.true_and, Bool.true_and]
        have hx1 : 0 ≤ -x - 1 := by omega
        have hx2 : -x - 1 < (m.length : Int) := by omega
        have e1 : (-x - 1).toNat = (-x).toNat - 1 := by omega
        rw [e1] at hcell ⊢
        clear e1
        have hx3 : 1 ≤ -x := by omega
        generalize m.getD ((-x).toNat - 1) false = v at *
        clear h
        go_enter Tryd.func67, Tryd.ntmps67
        go_wp2
        go_ret
        exact ⟨rfl, rfl⟩
      · have h1' : decide (-(m.length : Int) ≤ x) = false := decide_eq_false h1
        rw [h1', h2', Bool.and_false, Bool.false_and]
        clear h
        go_enter Tryd.func67, Tryd.ntmps67
        go_wp2
        go_ret
        exact ⟨rfl, rfl⟩
    · have h2' : decide (x < 0) = false := decide_eq_false h2
      rw [h2', Bool.false_and, Bool.false_and]
      clear h
      go_enter Tryd.func67, Tryd.ntmps67
      go_wp2
      go_ret
      exact ⟨rfl, rfl⟩
set_option maxHeartbeats 400000 in
theorem index_true (A : Option Addr) (c : Nat) (l : List Int) (p : Int → Bool) (g : Nat) (w : World) (h : RI w w.heap.size A l) (hn : l.length ≤ maxLen)
    (HP : Hid (∀ x ∈ l, Calls Tryd.prog 67 #[.int .i64 x, .pointer (some ⟨g, 0, none⟩)] w (RetS w (.bool (p x))))) :
    Calls Tryd.prog 84 #[.slice A l.length c, .func (.func 67) #[] #[.pointer (some ⟨g, 0, none⟩)]] w (RetIdx w (l.any p)) := by
  unfold maxLen at hn
  obtain ⟨T, hT⟩ : ∃ T, l.any p = T := ⟨_, rfl⟩
  rw [hT]
  have HT : Hid (l.any p = T) := hT
  clear hT
  go_enter Tryd.func84, Tryd.ntmps84
  go_wp2
  go_loop [8] (fun i => ∃ j : Nat, j ≤ l.length ∧ i = .int .i64 j ∧ Hid ((l.drop j).any p = T)) (fun i => l.length - (intOf i).toNat)
  case atStart => exact ⟨0, Nat.zero_le _, rfl, HT⟩
  case round =>
    obtain ⟨j, hj, rfl, HJ⟩ := hrel
    by_cases hlt : j < l.length
    · obtain ⟨ad, rfl, hb, hc⟩ := h j hlt
      have e := HJ.out
      rw [dropI l j hlt, List.any_cons] at e
      have hcall := HP.out (l.getD j 0) (by simp [List.getD_eq_getElem?_getD, hlt])
      generalize l.getD j 0 = x at *
      clear HJ HT HP h
      cases hp : p x
      · rw [hp] at e hcall
        have HE : Hid ((l.drop (j + 1)).any p = T) := by show _ = _; simpa using e
        clear e
        go_wp2_with fail
        refine hcall.mono ?_; rintro e w' ⟨rfl, rfl⟩
        go_wp2
        go_round
        case rel => exact ⟨j + 1, by omega, by go_num, HE⟩
        case measure => simp [intOf]; omega
      · rw [hp] at e hcall
        have HE : Hid (true = T) := by show _ = _; simpa using e
        clear e
        go_wp2_with fail
        refine hcall.mono ?_; rintro e w' ⟨rfl, rfl⟩
        go_wp2
        go_ret
        exact ⟨j, by rw [← HE.out]; simp, rfl, rfl⟩
    · have e := HJ.out
      rw [List.drop_of_length_le (by omega)] at e
      have HE : Hid (false = T) := by show _ = _; simpa using e
      clear e HJ HT HP h
      go_wp2
      go_ret
      exact ⟨-1, by rw [← HE.out]; simp, rfl, rfl⟩
set_option maxHeartbeats 400000 in
theorem contains_true (A : Option Addr) (c : Nat) (l : List Int) (p : Int → Bool) (g : Nat) (w : World) (h : RI w w.heap.size A l) (hn : l.length ≤ maxLen)
    (HP : Hid (∀ x ∈ l, Calls Tryd.prog 67 #[.int .i64 x, .pointer (some ⟨g, 0, none⟩)] w (RetS w (.bool (p x))))) :
    Calls Tryd.prog 60 #[.slice A l.length c, .func (.func 67) #[] #[.pointer (some ⟨g, 0, none⟩)]] w (RetS w (.bool (l.any p))) := by
  have C := index_true A c l p g w h hn HP
  generalize l.any p = b at *
  clear h HP
  go_enter Tryd.func60, Tryd.ntmps60
  go_wp2_with fail
  refine C.mono ?_; rintro e w' ⟨r, hr, rfl, rfl⟩
  go_wp2
  go_ret
  exact ⟨rfl, rfl⟩
set_option maxHeartbeats 400000 in
theorem index_bad (A : Option Addr) (c : Nat) (l : List Int) (p : Int → Bool) (g : Nat) (w : World) (h : RI w w.heap.size A l) (hn : l.length ≤ maxLen)
    (HP : Hid (∀ x ∈ l, Calls Tryd.prog 59 #[.int .i64 x, .pointer (some ⟨g, 0, none⟩)] w (RetS w (.bool (p x))))) :
    Calls Tryd.prog 84 #[.slice A l.length c, .func (.func 59) #[] #[.pointer (some ⟨g, 0, none⟩)]] w (RetIdx w (l.any p)) := by
  unfold maxLen at hn
  obtain ⟨T, hT⟩ : ∃ T, l.any p = T := ⟨_, rfl⟩
  rw [hT]
  have HT : Hid (l.any p = T) := hT
  clear hT
  go_enter Tryd.func84, Tryd.ntmps84
  go_wp2
  go_loop [8] (fun i => ∃ j : Nat, j ≤ l.length ∧ i = .int .i64 j ∧ Hid ((l.drop j).any p = T)) (fun i => l.length - (intOf i).toNat)
  case atStart => exact ⟨0, Nat.zero_le _, rfl, HT⟩
  case round =>
    obtain ⟨j, hj, rfl, HJ⟩ := hrel
    by_cases hlt : j < l.length
    · obtain ⟨ad, rfl, hb, hc⟩ := h j hlt
      have e := HJ.out
      rw [dropI l j hlt, List.any_cons] at e
      have hcall := HP.out (l.getD j 0) (by simp [List.getD_eq_getElem?_getD, hlt])
      generalize l.getD j 0 = x at *
      clear HJ HT HP h
      cases hp : p x
      · rw [hp] at e hcall
        have HE : Hid ((l.drop (j + 1)).any p = T) := by show _ = _; simpa using e
        clear e
        go_wp2_with fail
        refine hcall.mono ?_; rintro e w' ⟨rfl, rfl⟩
        go_wp2
        go_round
        case rel => exact ⟨j + 1, by omega, by go_num, HE⟩
        case measure => simp [intOf]; omega
      · rw [hp] at e hcall
        have HE : Hid (true = T) := by show _ = _; simpa using e
        clear e
        go_wp2_with fail
        refine hcall.mono ?_; rintro e w' ⟨rfl, rfl⟩
        go_wp2
        go_ret
        exact ⟨j, by rw [← HE.out]; simp, rfl, rfl⟩
    · have e := HJ.out
      rw [List.drop_of_length_le (by omega)] at e
      have HE : Hid (false = T) := by show _ = _; simpa using e
      clear e HJ HT HP h
      go_wp2
      go_ret
      exact ⟨-1, by rw [← HE.out]; simp, rfl, rfl⟩
set_option maxHeartbeats 400000 in
theorem contains_bad (A : Option Addr) (c : Nat) (l : List Int) (p : Int → Bool) (g : Nat) (w : World) (h : RI w w.heap.size A l) (hn : l.length ≤ maxLen)
    (HP : Hid (∀ x ∈ l, Calls Tryd.prog 59 #[.int .i64 x, .pointer (some ⟨g, 0, none⟩)] w (RetS w (.bool (p x))))) :
    Calls Tryd.prog 60 #[.slice A l.length c, .func (.func 59) #[] #[.pointer (some ⟨g, 0, none⟩)]] w (RetS w (.bool (l.any p))) := by
  have C := index_bad A c l p g w h hn HP
  generalize l.any p = b at *
  clear h HP
  go_enter Tryd.func60, Tryd.ntmps60
  go_wp2_with fail
  refine C.mono ?_; rintro e w' ⟨r, hr, rfl, rfl⟩
  go_wp2
  go_ret
  exact ⟨rfl, rfl⟩
set_option maxHeartbeats 400000 in
theorem Clause_any (A A' : Option Addr) (c c' : Nat) (l : List Int) (m : List Bool) (w : World) (h : RI w w.heap.size A l) (h' : RB w w.heap.size A' m) (hn : l.length ≤ maxLen) (hm : m.length ≤ maxLen) :
    Calls Tryd.prog 30 #[.slice A l.length c, .slice A' m.length c'] w (RetV w (.bool (clT l m))) := by
  have hb := bal (Below.refl w.heap.size w) (.cells #[.slice A' m.length c'] 40)
  have C := contains_true A c l (litT m) w.heap.size (w.alloc (.cells #[.slice A' m.length c'] 40)) (h.nx hb) hn (fun x _ => isTrue_any w.heap.size x A' c' m _ (by go_simp) (h'.nx hb) hm)
  have HB := Lib.hid hb
  unfold clT
  generalize l.any (litT m) = b at *
  clear h h' hb
  go_enter Tryd.func30, Tryd.ntmps30
  go_wp2_with fail
  refine C.mono ?_; rintro e w' ⟨rfl, rfl⟩
  go_wp2
  go_ret
  exact ⟨rfl, HB.out⟩
end Go.Proofs.YtplcabecbofjpaaDoor
