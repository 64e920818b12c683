/-
  The reference's Is.
-/
import Derived.Test.YtplcabecbofjpaaDoorProg
import Derived.WalkKit
import Derived.WalkSpells
import Derived.WalkLawsBesides
import Derived.Lib.Hide
import Derived.BigQuiet
import Derived.Deep.QuietTactic
import Derived.Deep.RegionWith
import Derived.Deep.RegionHeld3
import Derived.Test.YtplcabecbofjpaaDoorT5
set_option linter.unusedVariables false
namespace Go.Proofs.YtplcabecbofjpaaDoor
open Go.RowKit
theorem str_index (s : ByteArray) (j : Nat) (jj : Int) (h : jj = (j : Int)) (hj : j < s.size) (w : World) :
    (Instr.index 9 (.string s) (.int .i64 jj)).run Tryd.prog w = .ok (.int .u8 ((s.data.toList.getD j 0).toNat : Int)) w := by
  subst h
  have e : s.data.toList.getD j 0 = s[j] := by
    have hj' : j < s.data.size := hj
    rw [List.getD_eq_getElem?_getD, List.getElem?_eq_getElem (by simpa using hj'), Option.getD_some, Array.getElem_toList]
    rfl
  rw [e, run_index_string w 9 s .i64 j Tryd.underlying9]
  simp [hj]
theorem bS_cons (a b : UInt8) (t s : List UInt8) : bS (a :: t) (b :: s) = (a == b && bS t s) := by unfold bS; simp
theorem bS_nil (t : List UInt8) : bS t [] = true := by unfold bS; simp
theorem drop8 (l : List UInt8) (k : Nat) (h : k < l.length) : l.drop k = l.getD k 0 :: l.drop (k + 1) := drop_at l k h
set_option maxHeartbeats 1600000 in
theorem refIs_q (A : Option Addr) (c k : Nat) (l : List UInt8) (s : ByteArray) (w : World) (h : Rd w w.heap.size A l) (hk : k ≤ l.length) (hn : l.length ≤ maxLen) (hs : s.size ≤ maxLen) :
    Calls Tryd.prog 72 #[.slice A l.length c, .int .i64 k, .string s] w fun e w' => e = .returned (.tuple #[.int .i64 ((behS l k s : Nat) : Int), .bool (isB l k s)]) ∧ ∃ n, w' = w.drewN n := by
  unfold maxLen at hn hs
  have hsz : s.data.toList.length = s.size := by simp
  have d0 : decide ((k : Int) < 0) = false := decide_eq_false (by omega)
  have d1 : decide ((l.length : Int) < k) = false := decide_eq_false (by omega)
  by_cases hfit : s.size ≤ l.length - k
  · have d2 : decide ((l.length : Int) - k < s.size) = false := decide_eq_false (by omega)
    obtain ⟨T, hT⟩ : ∃ T, isB l k s = T := ⟨_, rfl⟩
    obtain ⟨V, hV⟩ : ∃ V, Value.tuple #[.int .i64 ((behS l k s : Nat) : Int), .bool (isB l k s)] = V := ⟨_, rfl⟩
    rw [hV]
    have HV0 : Hid (T = false → Value.tuple #[.int .i64 (k : Int), .bool false] = V) := by
      intro e
      rw [← hV, behS, hT, e]
      rfl
    have HV1 : Hid (T = true → Value.tuple #[.int .i64 ((k : Int) + s.size), .bool true] = V) := by
      intro e
      rw [← hV, behS, hT, e, if_pos rfl, Int.natCast_add]
    clear hV
    rw [isB_bS] at hT
    have HT : Hid (bS (l.drop (k + 0)) (s.data.toList.drop 0) = T) := hT
    have HR := Lib.hid h
    have HSZ := Lib.hid hsz
    clear hT h hsz
    go_enter Tryd.func72, Tryd.ntmps72
    go_wp2
    go_loopw [8] (fun i wr => ∃ (j q : Nat), j ≤ s.size ∧ i = .int .i64 j ∧ wr = w.drewN q ∧ Hid (bS (l.drop (k + j)) (s.data.toList.drop j) = T)) (fun i _ => s.size - (intOf i).toNat)
    case atStart => exact ⟨0, 0, Nat.zero_le _, rfl, rfl, HT⟩
    case round =>
      obtain ⟨j, q, hj, rfl, rfl, HJ⟩ := hrel
      clear HT
      by_cases hlt : j < s.size
      · obtain ⟨a1, rfl, _, hc1⟩ := HR.out (k + j) (by omega)
        have hlt' : (j : Int) < s.size := by omega
        have hlt2 : (k : Int) + j < l.length := by omega
        have hlt3 : (0 : Int) ≤ (k : Int) + j := by omega
        have hix := fun wx => str_index s j j rfl hlt wx
        have e := HJ.out
        rw [drop8 l (k + j) (by omega), drop8 s.data.toList j (by rw [HSZ.out]; exact hlt), bS_cons] at e
        generalize l.getD (k + j) 0 = u at *
        generalize s.data.toList.getD j 0 = v at *
        by_cases huv : u = v
        · subst huv
          have hvv : ((u.toNat : Int) != (u.toNat : Int)) = false := by simp
          have HE : Hid (bS (l.drop (k + (j + 1))) (s.data.toList.drop (j + 1)) = T) := by show _ = _; rw [← e]; simp [Nat.add_assoc]
          clear e HJ HR
          go_wp2
          go_quiet (fail)
          go_wp2
          go_roundw
          case rel => exact ⟨j + 1, q + nq, by omega, by go_num, by first | rfl | rw [World.drewN_drewN], HE⟩
          case measure => simp [intOf]; omega
        · have hne : u.toNat ≠ v.toNat := fun e => huv (UInt8.toNat_inj.1 e)
          have hvv : ((u.toNat : Int) != (v.toNat : Int)) = true := by simp; omega
          have HE : Hid (false = T) := by show _ = _; rw [← e, beq_eq_false_iff_ne.2 huv, Bool.false_and]
          clear e HJ HR huv
          go_wp2
          go_quiet (fail)
          go_wp2
          go_ret2
          exact ⟨by rw [← HV0.out HE.out.symm]; rfl, q + nq, by first | rfl | rw [World.drewN_drewN]⟩
      · have e := HJ.out
        rw [List.drop_of_length_le (l := s.data.toList) (by rw [HSZ.out]; omega), bS_nil] at e
        have HE : Hid (true = T) := e
        clear e HJ HR
        go_wp2
        go_ret2
        exact ⟨by rw [← HV1.out HE.out.symm]; rfl, q, rfl⟩
  · have d2 : decide ((l.length : Int) - k < s.size) = true := decide_eq_true (by omega)
    have hf : isB l k s = false := by
      rw [Bool.eq_false_iff]
      intro e
      exact hfit (isB_len e)
    unfold behS
    rw [hf]
    clear hf h hsz
    go_enter Tryd.func72, Tryd.ntmps72
    go_wp2
    go_ret2
    exact ⟨rfl, 0, rfl⟩
theorem refIs_any (A : Option Addr) (c k : Nat) (l : List UInt8) (s : ByteArray) (w : World) (h : Rd w w.heap.size A l) (hk : k ≤ l.length) (hn : l.length ≤ maxLen) (hs : s.size ≤ maxLen) :
    Calls Tryd.prog 72 #[.slice A l.length c, .int .i64 k, .string s] w (RetV w (.tuple #[.int .i64 ((behS l k s : Nat) : Int), .bool (isB l k s)])) :=
  (refIs_q A c k l s w h hk hn hs).mono fun e w' ⟨he, n, hw⟩ => ⟨he, by rw [hw]; exact Rd.drw n⟩
end Go.Proofs.YtplcabecbofjpaaDoor
