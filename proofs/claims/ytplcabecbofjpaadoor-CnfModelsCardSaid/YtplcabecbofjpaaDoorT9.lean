/-
  The reference's PrintModel.
-/
import Derived.Test.YtplcabecbofjpaaDoorProg
import Derived.WalkKit
import Derived.WalkSpells
import Derived.WalkLawsBesides
import Derived.Lib.Hide
import Derived.BigQuiet
import Derived.Deep.QuietTactic
import Derived.Deep.RegionWith
import Derived.Deep.RegionHeld3
import Derived.Test.YtplcabecbofjpaaDoorT8
set_option linter.unusedVariables false
namespace Go.Proofs.YtplcabecbofjpaaDoor
open Go.RowKit
theorem modL_len (m : List Bool) : (modL m).length = m.length := by simp [modL]
theorem modL_at (m : List Bool) (j : Nat) (h : j < m.length) : (modL m).getD j 0 = litAt m j := by
  simp [modL, List.getD_eq_getElem?_getD, h]
/-- What is told of a model behind j variables. -/
def modP (m : List Bool) (j : Nat) : List UInt8 := [118, 32] ++ litsS ((modL m).take j)
theorem modP_next (m : List Bool) (j : Nat) (h : j < m.length) : modP m (j + 1) = modP m j ++ Lib.itoa (litAt m j) ++ [32] := by
  unfold modP
  rw [takeI (modL m) j (by rw [modL_len]; exact h), litsS_snoc, modL_at m j h, litS]
  simp
theorem modP_short (m : List Bool) (j : Nat) (h : m.length ≤ 100) : (modP m j).length ≤ 1000 := by
  have := lits_short ((modL m).take j) (by
    intro x hx
    obtain ⟨i, hi, rfl⟩ := List.mem_map.1 (List.mem_of_mem_take hx)
    have hi' := List.mem_range.1 hi
    unfold litAt; split <;> omega)
  have e : (modP m j).length = 2 + (litsS ((modL m).take j)).length := by simp [modP]; omega
  have e2 : ((modL m).take j).length ≤ 100 := by rw [List.length_take, modL_len]; omega
  rw [e]; omega
set_option maxHeartbeats 1600000 in
set_option maxRecDepth 100000 in
theorem refPrintModel_any (A : Option Addr) (c : Nat) (m : List Bool) (w : World) (h : RB w w.heap.size A m) (hm : m.length ≤ 100) :
    Calls Tryd.prog 28 #[.slice A m.length c] w (RetV w (.string (strOf (modS m)))) := by
  have HR := Lib.hid h
  have HMS : Hid (strOf (modS m) = strOf (modP m m.length) ++ ⟨#[48, 10]⟩) := by
    show _ = _
    rw [show (⟨#[48, 10]⟩ : ByteArray) = strOf [48, 10] from rfl, strOf_app]
    congr 1
    unfold modS modP tellS
    rw [List.take_of_length_le (by rw [modL_len]; exact Nat.le_refl _)]
    simp
  have hP0 : strOf (modP m 0) = ⟨#[118, 32]⟩ := rfl
  have HP0 := Lib.hid hP0
  obtain ⟨V, hV⟩ : ∃ V, Value.string (strOf (modS m)) = V := ⟨_, rfl⟩
  rw [hV]
  have HV := Lib.hid hV
  clear h hP0 hV
  go_enter Tryd.func28, Tryd.ntmps28
  go_wp2
  go_loopw [3, 4] (fun s i wr => ∃ (j : Nat), j ≤ m.length ∧ i = .int .i64 j ∧ s = .string (strOf (modP m j)) ∧ Below w.heap.size w wr) (fun _ i _ => m.length - (intOf i).toNat)
  case atStart => exact ⟨0, Nat.zero_le _, rfl, by rw [HP0.out], Below.refl _ _⟩
  case round =>
    obtain ⟨j, hj, rfl, rfl, hB⟩ := hrel
    have zs : (strOf (modP m j)).size ≤ 1000 := modP_short m j hm
    by_cases hlt : j < m.length
    · obtain ⟨a1, rfl, _, hc1⟩ := (HR.out.nx hB) j hlt
      have hlt' : (j : Int) < m.length := by omega
      have hnx := modP_next m j hlt
      have hla : litAt m j = if m.getD j false then (j : Int) + 1 else -((j : Int) + 1) := rfl
      have hsh := itoa_short (litAt m j) (by rw [hla]; split <;> omega) (by rw [hla]; split <;> omega)
      have HN : Hid (strOf (modP m (j + 1)) = strOf (modP m j) ++ strOf (Lib.itoa (litAt m j)) ++ ⟨#[32]⟩) := by
        show _ = _
        rw [hnx, show (⟨#[32]⟩ : ByteArray) = strOf [32] from rfl, strOf_app, strOf_app]
      have zf : (strOf (Lib.itoa (litAt m j))).size ≤ 7 := hsh
      have CF := Lib.hid (fun wx => refFig_any (litAt m j) (by rw [hla]; split <;> omega) (by rw [hla]; split <;> omega) wx)
      generalize strOf (modP m j) = S at *
      generalize strOf (Lib.itoa (litAt m j)) = F at *
      have y1 : ¬ (9223372036854775807 < S.size + F.size) := by omega
      have y2 : ¬ (9223372036854775807 < S.size + F.size + 1) := by omega
      have HBB := Lib.hid hB
      clear hnx hsh zf zs hB HMS HP0
      cases hb : m.getD j false
      · rw [hb] at hc1 hla
        rw [if_neg (by simp)] at hla
        have C := CF.out wr
        rw [hla, show -((j : Int) + 1) = -(j : Int) - 1 by omega] at C
        clear hla CF hb
        go_wp2_with fail
        refine C.mono ?_; rintro e w1 ⟨rfl, hb1⟩
        have HB1 := Lib.hid (bnx HBB.out hb1)
        clear C hb1 hc1
        go_wp2
        go_roundw
        case rel => exact ⟨j + 1, by omega, by go_num, by rw [HN.out], HB1.out⟩
        case measure => simp [intOf]; omega
      · rw [hb] at hc1 hla
        rw [if_pos rfl] at hla
        have C := CF.out wr
        rw [hla] at C
        clear hla CF hb
        go_wp2_with fail
        refine C.mono ?_; rintro e w1 ⟨rfl, hb1⟩
        have HB1 := Lib.hid (bnx HBB.out hb1)
        clear C hb1 hc1
        go_wp2
        go_roundw
        case rel => exact ⟨j + 1, by omega, by go_num, by rw [HN.out], HB1.out⟩
        case measure => simp [intOf]; omega
    · obtain rfl : j = m.length := by omega
      have HVV : Hid (Value.string (strOf (modP m m.length) ++ ⟨#[48, 10]⟩) = V) := by show _ = _; rw [← HV.out, HMS.out]
      generalize strOf (modP m m.length) = S at *
      have y1 : ¬ (9223372036854775807 < S.size + 2) := by omega
      have HBB := Lib.hid hB
      clear hB HMS HP0 HV
      go_wp2
      go_ret
      exact ⟨by rw [← HVV.out]; rfl, HBB.out⟩
end Go.Proofs.YtplcabecbofjpaaDoor
