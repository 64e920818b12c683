/-
  vidimusref01.Long over the translated program: how many bytes the rune has that begins at a place of a string, or 0.
  vidimusref01.IsName over the translated program: it tells something.
-/
import Derived.Test.YtkdocjcpehmljaaProg
import Derived.WalkKit
import Derived.WalkSpells
import Derived.WalkLawsBesides
import Derived.Lib.Hide
import Derived.BigQuiet
import Derived.Deep.QuietTactic
import Derived.Deep.RegionWith
import Derived.Deep.RegionHeld3
import Derived.Test.YtkdocjcpehmljaaQ01
set_option linter.unusedVariables false
/- vidimusref01.Long over the translated program: how many bytes the rune has that begins at a place of a string, or 0. -/
namespace Go.Proofs.Ytkdocjcpehmljaa
open Go.RowKit
theorem drop_at (l : List UInt8) (k : Nat) (h : k < l.length) : l.drop k = l.getD k 0 :: l.drop (k + 1) := by
  rw [List.drop_eq_getElem_cons h]; simp [List.getD, h]
theorem str_index (s : ByteArray) (j : Nat) (jj : Int) (h : jj = (j : Int)) (hj : j < s.size) (w : World) :
    (Instr.index 9 (.string s) (.int .i64 jj)).run Try.prog w = .ok (.int .u8 ((s.data.toList.getD j 0).toNat : Int)) w := by
  subst h
  have e : s.data.toList.getD j 0 = s[j] := by
    have hj' : j < s.data.size := hj
    rw [List.getD_eq_getElem?_getD, Array.getElem?_toList, Array.getElem?_eq_getElem hj', Option.getD_some]
    rfl
  rw [e, run_index_string w 9 s .i64 j Try.underlying9]
  simp [hj]
/-- r continuing bytes, with c gathered. -/
def longF : Nat → Nat → List UInt8 → Option Nat
  | 0, c, _ => some c
  | _ + 1, _, [] => none
  | r + 1, c, b :: t => if b.toNat < 128 ∨ 191 < b.toNat then none else longF r (c * 64 + b.toNat - 128) t
def longE (n least : Nat) : Option Nat → Nat
  | none => 0
  | some c => if c < least ∨ 1114111 < c ∨ 55296 ≤ c ∧ c < 57344 then 0 else n
def longL : List UInt8 → Nat
  | [] => 0
  | b :: t => if 240 ≤ b.toNat ∧ b.toNat < 248 then longE 4 65536 (longF 3 (b.toNat - 240) t)
    else if 224 ≤ b.toNat ∧ b.toNat < 240 then longE 3 2048 (longF 2 (b.toNat - 224) t)
    else if 192 ≤ b.toNat ∧ b.toNat < 224 then longE 2 128 (longF 1 (b.toNat - 192) t)
    else if 128 ≤ b.toNat then 0 else 1
theorem bound64 (i c v : Nat) (h1 : 1 ≤ i) (h4 : i ≤ 3) (hc : c < 32 * 64 ^ (i - 1)) (hv : 128 ≤ v) (hv2 : v ≤ 191) : c * 64 + v - 128 < 32 * 64 ^ (i + 1 - 1) ∧ c < 131072 := by
  have : i = 1 ∨ i = 2 ∨ i = 3 := by omega
  rcases this with rfl | rfl | rfl <;> simp at hc ⊢ <;> omega
theorem bound64e (c n : Nat) (h4 : n ≤ 4) (hc : c < 32 * 64 ^ (n - 1)) : c < 8388608 := by
  have : n = 0 ∨ n = 1 ∨ n = 2 ∨ n = 3 ∨ n = 4 := by omega
  rcases this with rfl | rfl | rfl | rfl | rfl <;> simp at hc <;> omega
set_option maxRecDepth 100000 in
set_option maxHeartbeats 1600000 in
theorem Long_four (s : ByteArray) (k : Nat) (w : World) (hk : k < s.size) (hs : s.size ≤ 9223372036854775807) (h1 : 240 ≤ (s.data.toList.getD k 0).toNat) (h2 : (s.data.toList.getD k 0).toNat < 248) :
    Calls Try.prog 47 #[.string s, .int .i64 k] w fun e w' => e = .returned (.int .i64 (longE 4 65536 (longF 3 ((s.data.toList.getD k 0).toNat - 240) (s.data.toList.drop (k + 1))) : Nat)) ∧ w = w' := by
  have hix0 := fun wx => str_index s k k rfl hk wx
  have hlt256 : (s.data.toList.getD k 0).toNat < 256 := (s.data.toList.getD k 0).toNat_lt
  have HZ : Hid (s.data.toList.length = s.size) := by show _ = _; rw [Array.length_toList]; rfl
  obtain ⟨R, hR⟩ : ∃ R, longF 3 ((s.data.toList.getD k 0).toNat - 240) (s.data.toList.drop (k + 1)) = R := ⟨_, rfl⟩
  rw [hR]
  generalize hb : (s.data.toList.getD k 0).toNat = b at *
  obtain ⟨c0, hc0⟩ : ∃ c0 : Nat, b - 240 = c0 := ⟨_, rfl⟩
  have HR : Hid (longF 3 c0 (s.data.toList.drop (k + 1)) = R) := by rw [← hc0]; exact hR
  have hc0' : (b : Int) - 240 = (c0 : Int) := by omega
  have hc1 : c0 < 32 * 64 ^ (1 - 1) := by simp; omega
  have f1 : (240 : Int) ≤ b := by omega
  have f2 : (b : Int) < 248 := by omega
  clear hR hb hc0
  go_enter Try.func47, Try.ntmps47
  go_wp2
  go_loop [6, 8] (fun cc ii => ∃ (i c : Nat), 1 ≤ i ∧ i ≤ 4 ∧ Hid (c < 32 * 64 ^ (i - 1)) ∧ cc = .int .i64 c ∧ ii = .int .i64 i ∧ Hid (longF (4 - i) c (s.data.toList.drop (k + i)) = R)) (fun _ ii => 4 - (intOf ii).toNat)
  case atStart => exact ⟨1, c0, by omega, by omega, hc1, by first | rfl | (rw [hc0']), rfl, HR⟩
  case round =>
    obtain ⟨i, c, hi1, hi4, HC, rfl, rfl, HJ⟩ := hrel
    clear hix0 hc0' hc1
    by_cases hin : i < 4
    · have e := HJ.out
      obtain ⟨r, hr⟩ : ∃ r, 4 - i = r + 1 := ⟨4 - i - 1, by omega⟩
      have hr' : 4 - (i + 1) = r := by omega
      rw [hr] at e
      have hin' : (i : Int) < 4 := by omega
      by_cases hend : s.size ≤ k + i
      · rw [List.drop_of_length_le (by rw [HZ.out]; exact hend), longF] at e
        have HE : Hid (none = R) := e
        have hge : (s.size : Int) - k ≤ i := by omega
        have hge2 : decide ((s.size : Int) - k ≤ i) = true := decide_eq_true hge
        clear e HJ HR hr hr'
        go_wp2
        go_ret
        exact ⟨by rw [← HE.out]; rfl, rfl⟩
      · have hlt : k + i < s.size := by omega
        have hix := fun wx => str_index s (k + i) ((k : Int) + i) (by omega) hlt wx
        rw [drop_at _ (k + i) (by rw [HZ.out]; exact hlt), longF] at e
        have hv256 : (s.data.toList.getD (k + i) 0).toNat < 256 := (s.data.toList.getD (k + i) 0).toNat_lt
        generalize (s.data.toList.getD (k + i) 0).toNat = v at *
        have hv256' : (v : Int) < 256 := by omega
        have hge2 : decide ((s.size : Int) - k ≤ i) = false := decide_eq_false (by omega)
        by_cases hbad : v < 128 ∨ 191 < v
        · rw [if_pos hbad] at e
          have HE : Hid (none = R) := e
          have hcase : decide ((v : Int) < 128) = true ∨ (decide ((v : Int) < 128) = false ∧ decide ((191 : Int) < v) = true) := by
            simp only [decide_eq_true_eq, decide_eq_false_iff_not]; omega
          clear e HJ HR hr hr' hbad
          rcases hcase with g1 | ⟨g1, g2⟩
          all_goals
            go_wp2
            go_ret
            exact ⟨by rw [← HE.out]; rfl, rfl⟩
        · rw [if_neg hbad] at e
          obtain ⟨hb1, hb2⟩ := bound64 i c v hi1 (by omega) HC.out (by omega) (by omega)
          have HB : Hid (c * 64 + v - 128 < 32 * 64 ^ (i + 1 - 1)) := hb1
          obtain ⟨c2, hc2⟩ : ∃ c2, c * 64 + v - 128 = c2 := ⟨_, rfl⟩
          rw [hc2] at e
          have HE : Hid (longF r c2 (s.data.toList.drop (k + (i + 1))) = R) := e
          have HC2 : Hid ((c : Int) * 64 + v - 128 = (c2 : Int)) := by show _ = _; omega
          have HB2 : Hid (c2 < 32 * 64 ^ (i + 1 - 1)) := by rw [← hc2]; exact HB
          have g1 : decide ((v : Int) < 128) = false := decide_eq_false (by omega)
          have g2 : decide ((191 : Int) < v) = false := decide_eq_false (by omega)
          have HR' : Hid (4 - (i + 1) = r) := hr'
          clear e HJ HR hr hr' hbad hb1 hc2 HB HC
          go_wp2
          go_round
          case rel => exact ⟨i + 1, c2, by omega, by omega, HB2, by rw [HC2.out], by go_num, by rw [HR'.out]; exact HE⟩
          case measure => simp [intOf]; omega
    · have e := HJ.out
      have hin2 : i = 4 := by omega
      have HC1 := bound64e c 4 (by omega) (by have := HC.out; rw [hin2] at this; exact this)
      subst hin2
      rw [longF] at e
      have HE : Hid (some c = R) := e
      clear e HJ HR HC
      by_cases hbad : c < 65536 ∨ 1114111 < c ∨ 55296 ≤ c ∧ c < 57344
      · have HF : Hid (longE 4 65536 R = 0) := by show _ = _; rw [← HE.out, longE, if_pos hbad]
        have hcase : decide ((c : Int) < 65536) = true ∨ (decide ((c : Int) < 65536) = false ∧ decide ((1114111 : Int) < c) = true) ∨ (decide ((c : Int) < 65536) = false ∧ decide ((1114111 : Int) < c) = false ∧ decide ((55296 : Int) ≤ c) = true ∧ decide ((c : Int) < 57344) = true) := by
          simp only [decide_eq_true_eq, decide_eq_false_iff_not]; omega
        clear hbad
        rcases hcase with g1 | ⟨g1, g2⟩ | ⟨g1, g2, g3, g4⟩
        all_goals
          go_wp2
          go_ret
          exact ⟨by rw [HF.out]; rfl, rfl⟩
      · have HF : Hid (longE 4 65536 R = 4) := by show _ = _; rw [← HE.out, longE, if_neg hbad]
        have hcase : (decide ((c : Int) < 65536) = false ∧ decide ((1114111 : Int) < c) = false ∧ decide ((55296 : Int) ≤ c) = false) ∨ (decide ((c : Int) < 65536) = false ∧ decide ((1114111 : Int) < c) = false ∧ decide ((55296 : Int) ≤ c) = true ∧ decide ((c : Int) < 57344) = false) := by
          simp only [decide_eq_true_eq, decide_eq_false_iff_not]; omega
        clear hbad
        rcases hcase with ⟨g1, g2, g3⟩ | ⟨g1, g2, g3, g4⟩
        all_goals
          go_wp2
          go_ret
          exact ⟨by rw [HF.out]; rfl, rfl⟩
set_option maxRecDepth 100000 in
set_option maxHeartbeats 1600000 in
theorem Long_three (s : ByteArray) (k : Nat) (w : World) (hk : k < s.size) (hs : s.size ≤ 9223372036854775807) (h1 : 224 ≤ (s.data.toList.getD k 0).toNat) (h2 : (s.data.toList.getD k 0).toNat < 240) :
    Calls Try.prog 47 #[.string s, .int .i64 k] w fun e w' => e = .returned (.int .i64 (longE 3 2048 (longF 2 ((s.data.toList.getD k 0).toNat - 224) (s.data.toList.drop (k + 1))) : Nat)) ∧ w = w' := by
  have hix0 := fun wx => str_index s k k rfl hk wx
  have hlt256 : (s.data.toList.getD k 0).toNat < 256 := (s.data.toList.getD k 0).toNat_lt
  have HZ : Hid (s.data.toList.length = s.size) := by show _ = _; rw [Array.length_toList]; rfl
  obtain ⟨R, hR⟩ : ∃ R, longF 2 ((s.data.toList.getD k 0).toNat - 224) (s.data.toList.drop (k + 1)) = R := ⟨_, rfl⟩
  rw [hR]
  generalize hb : (s.data.toList.getD k 0).toNat = b at *
  obtain ⟨c0, hc0⟩ : ∃ c0 : Nat, b - 224 = c0 := ⟨_, rfl⟩
  have HR : Hid (longF 2 c0 (s.data.toList.drop (k + 1)) = R) := by rw [← hc0]; exact hR
  have hc0' : (b : Int) - 224 = (c0 : Int) := by omega
  have hc1 : c0 < 32 * 64 ^ (1 - 1) := by simp; omega
  have f1 : (224 : Int) ≤ b := by omega
  have f2 : (b : Int) < 240 := by omega
  have f3 : decide ((240 : Int) ≤ b) = false := decide_eq_false (by omega)
  clear hR hb hc0
  go_enter Try.func47, Try.ntmps47
  go_wp2
  go_loop [6, 8] (fun cc ii => ∃ (i c : Nat), 1 ≤ i ∧ i ≤ 3 ∧ Hid (c < 32 * 64 ^ (i - 1)) ∧ cc = .int .i64 c ∧ ii = .int .i64 i ∧ Hid (longF (3 - i) c (s.data.toList.drop (k + i)) = R)) (fun _ ii => 3 - (intOf ii).toNat)
  case atStart => exact ⟨1, c0, by omega, by omega, hc1, by first | rfl | (rw [hc0']), rfl, HR⟩
  case round =>
    obtain ⟨i, c, hi1, hi4, HC, rfl, rfl, HJ⟩ := hrel
    clear hix0 hc0' hc1
    by_cases hin : i < 3
    · have e := HJ.out
      obtain ⟨r, hr⟩ : ∃ r, 3 - i = r + 1 := ⟨3 - i - 1, by omega⟩
      have hr' : 3 - (i + 1) = r := by omega
      rw [hr] at e
      have hin' : (i : Int) < 3 := by omega
      by_cases hend : s.size ≤ k + i
      · rw [List.drop_of_length_le (by rw [HZ.out]; exact hend), longF] at e
        have HE : Hid (none = R) := e
        have hge : (s.size : Int) - k ≤ i := by omega
        have hge2 : decide ((s.size : Int) - k ≤ i) = true := decide_eq_true hge
        clear e HJ HR hr hr'
        go_wp2
        go_ret
        exact ⟨by rw [← HE.out]; rfl, rfl⟩
      · have hlt : k + i < s.size := by omega
        have hix := fun wx => str_index s (k + i) ((k : Int) + i) (by omega) hlt wx
        rw [drop_at _ (k + i) (by rw [HZ.out]; exact hlt), longF] at e
        have hv256 : (s.data.toList.getD (k + i) 0).toNat < 256 := (s.data.toList.getD (k + i) 0).toNat_lt
        generalize (s.data.toList.getD (k + i) 0).toNat = v at *
        have hv256' : (v : Int) < 256 := by omega
        have hge2 : decide ((s.size : Int) - k ≤ i) = false := decide_eq_false (by omega)
        by_cases hbad : v < 128 ∨ 191 < v
        · rw [if_pos hbad] at e
          have HE : Hid (none = R) := e
          have hcase : decide ((v : Int) < 128) = true ∨ (decide ((v : Int) < 128) = false ∧ decide ((191 : Int) < v) = true) := by
            simp only [decide_eq_true_eq, decide_eq_false_iff_not]; omega
          clear e HJ HR hr hr' hbad
          rcases hcase with g1 | ⟨g1, g2⟩
          all_goals
            go_wp2
            go_ret
            exact ⟨by rw [← HE.out]; rfl, rfl⟩
        · rw [if_neg hbad] at e
          obtain ⟨hb1, hb2⟩ := bound64 i c v hi1 (by omega) HC.out (by omega) (by omega)
          have HB : Hid (c * 64 + v - 128 < 32 * 64 ^ (i + 1 - 1)) := hb1
          obtain ⟨c2, hc2⟩ : ∃ c2, c * 64 + v - 128 = c2 := ⟨_, rfl⟩
          rw [hc2] at e
          have HE : Hid (longF r c2 (s.data.toList.drop (k + (i + 1))) = R) := e
          have HC2 : Hid ((c : Int) * 64 + v - 128 = (c2 : Int)) := by show _ = _; omega
          have HB2 : Hid (c2 < 32 * 64 ^ (i + 1 - 1)) := by rw [← hc2]; exact HB
          have g1 : decide ((v : Int) < 128) = false := decide_eq_false (by omega)
          have g2 : decide ((191 : Int) < v) = false := decide_eq_false (by omega)
          have HR' : Hid (3 - (i + 1) = r) := hr'
          clear e HJ HR hr hr' hbad hb1 hc2 HB HC
          go_wp2
          go_round
          case rel => exact ⟨i + 1, c2, by omega, by omega, HB2, by rw [HC2.out], by go_num, by rw [HR'.out]; exact HE⟩
          case measure => simp [intOf]; omega
    · have e := HJ.out
      have hin2 : i = 3 := by omega
      have HC1 := bound64e c 3 (by omega) (by have := HC.out; rw [hin2] at this; exact this)
      subst hin2
      rw [longF] at e
      have HE : Hid (some c = R) := e
      clear e HJ HR HC
      by_cases hbad : c < 2048 ∨ 1114111 < c ∨ 55296 ≤ c ∧ c < 57344
      · have HF : Hid (longE 3 2048 R = 0) := by show _ = _; rw [← HE.out, longE, if_pos hbad]
        have hcase : decide ((c : Int) < 2048) = true ∨ (decide ((c : Int) < 2048) = false ∧ decide ((1114111 : Int) < c) = true) ∨ (decide ((c : Int) < 2048) = false ∧ decide ((1114111 : Int) < c) = false ∧ decide ((55296 : Int) ≤ c) = true ∧ decide ((c : Int) < 57344) = true) := by
          simp only [decide_eq_true_eq, decide_eq_false_iff_not]; omega
        clear hbad
        rcases hcase with g1 | ⟨g1, g2⟩ | ⟨g1, g2, g3, g4⟩
        all_goals
          go_wp2
          go_ret
          exact ⟨by rw [HF.out]; rfl, rfl⟩
      · have HF : Hid (longE 3 2048 R = 3) := by show _ = _; rw [← HE.out, longE, if_neg hbad]
        have hcase : (decide ((c : Int) < 2048) = false ∧ decide ((1114111 : Int) < c) = false ∧ decide ((55296 : Int) ≤ c) = false) ∨ (decide ((c : Int) < 2048) = false ∧ decide ((1114111 : Int) < c) = false ∧ decide ((55296 : Int) ≤ c) = true ∧ decide ((c : Int) < 57344) = false) := by
          simp only [decide_eq_true_eq, decide_eq_false_iff_not]; omega
        clear hbad
        rcases hcase with ⟨g1, g2, g3⟩ | ⟨g1, g2, g3, g4⟩
        all_goals
          go_wp2
          go_ret
          exact ⟨by rw [HF.out]; rfl, rfl⟩
set_option maxRecDepth 100000 in
set_option maxHeartbeats 1600000 in
theorem Long_two (s : ByteArray) (k : Nat) (w : World) (hk : k < s.size) (hs : s.size ≤ 9223372036854775807) (h1 : 192 ≤ (s.data.toList.getD k 0).toNat) (h2 : (s.data.toList.getD k 0).toNat < 224) :
    Calls Try.prog 47 #[.string s, .int .i64 k] w fun e w' => e = .returned (.int .i64 (longE 2 128 (longF 1 ((s.data.toList.getD k 0).toNat - 192) (s.data.toList.drop (k + 1))) : Nat)) ∧ w = w' := by
  have hix0 := fun wx => str_index s k k rfl hk wx
  have hlt256 : (s.data.toList.getD k 0).toNat < 256 := (s.data.toList.getD k 0).toNat_lt
  have HZ : Hid (s.data.toList.length = s.size) := by show _ = _; rw [Array.length_toList]; rfl
  obtain ⟨R, hR⟩ : ∃ R, longF 1 ((s.data.toList.getD k 0).toNat - 192) (s.data.toList.drop (k + 1)) = R := ⟨_, rfl⟩
  rw [hR]
  generalize hb : (s.data.toList.getD k 0).toNat = b at *
  obtain ⟨c0, hc0⟩ : ∃ c0 : Nat, b - 192 = c0 := ⟨_, rfl⟩
  have HR : Hid (longF 1 c0 (s.data.toList.drop (k + 1)) = R) := by rw [← hc0]; exact hR
  have hc0' : (b : Int) - 192 = (c0 : Int) := by omega
  have hc1 : c0 < 32 * 64 ^ (1 - 1) := by simp; omega
  have f1 : (192 : Int) ≤ b := by omega
  have f2 : (b : Int) < 224 := by omega
  have f3 : decide ((240 : Int) ≤ b) = false := decide_eq_false (by omega)
  have f4 : decide ((224 : Int) ≤ b) = false := decide_eq_false (by omega)
  clear hR hb hc0
  go_enter Try.func47, Try.ntmps47
  go_wp2
  go_loop [6, 8] (fun cc ii => ∃ (i c : Nat), 1 ≤ i ∧ i ≤ 2 ∧ Hid (c < 32 * 64 ^ (i - 1)) ∧ cc = .int .i64 c ∧ ii = .int .i64 i ∧ Hid (longF (2 - i) c (s.data.toList.drop (k + i)) = R)) (fun _ ii => 2 - (intOf ii).toNat)
  case atStart => exact ⟨1, c0, by omega, by omega, hc1, by first | rfl | (rw [hc0']), rfl, HR⟩
  case round =>
    obtain ⟨i, c, hi1, hi4, HC, rfl, rfl, HJ⟩ := hrel
    clear hix0 hc0' hc1
    by_cases hin : i < 2
    · have e := HJ.out
      obtain ⟨r, hr⟩ : ∃ r, 2 - i = r + 1 := ⟨2 - i - 1, by omega⟩
      have hr' : 2 - (i + 1) = r := by omega
      rw [hr] at e
      have hin' : (i : Int) < 2 := by omega
      by_cases hend : s.size ≤ k + i
      · rw [List.drop_of_length_le (by rw [HZ.out]; exact hend), longF] at e
        have HE : Hid (none = R) := e
        have hge : (s.size : Int) - k ≤ i := by omega
        have hge2 : decide ((s.size : Int) - k ≤ i) = true := decide_eq_true hge
        clear e HJ HR hr hr'
        go_wp2
        go_ret
        exact ⟨by rw [← HE.out]; rfl, rfl⟩
      · have hlt : k + i < s.size := by omega
        have hix := fun wx => str_index s (k + i) ((k : Int) + i) (by omega) hlt wx
        rw [drop_at _ (k + i) (by rw [HZ.out]; exact hlt), longF] at e
        have hv256 : (s.data.toList.getD (k + i) 0).toNat < 256 := (s.data.toList.getD (k + i) 0).toNat_lt
        generalize (s.data.toList.getD (k + i) 0).toNat = v at *
        have hv256' : (v : Int) < 256 := by omega
        have hge2 : decide ((s.size : Int) - k ≤ i) = false := decide_eq_false (by omega)
        by_cases hbad : v < 128 ∨ 191 < v
        · rw [if_pos hbad] at e
          have HE : Hid (none = R) := e
          have hcase : decide ((v : Int) < 128) = true ∨ (decide ((v : Int) < 128) = false ∧ decide ((191 : Int) < v) = true) := by
            simp only [decide_eq_true_eq, decide_eq_false_iff_not]; omega
          clear e HJ HR hr hr' hbad
          rcases hcase with g1 | ⟨g1, g2⟩
          all_goals
            go_wp2
            go_ret
            exact ⟨by rw [← HE.out]; rfl, rfl⟩
        · rw [if_neg hbad] at e
          obtain ⟨hb1, hb2⟩ := bound64 i c v hi1 (by omega) HC.out (by omega) (by omega)
          have HB : Hid (c * 64 + v - 128 < 32 * 64 ^ (i + 1 - 1)) := hb1
          obtain ⟨c2, hc2⟩ : ∃ c2, c * 64 + v - 128 = c2 := ⟨_, rfl⟩
          rw [hc2] at e
          have HE : Hid (longF r c2 (s.data.toList.drop (k + (i + 1))) = R) := e
          have HC2 : Hid ((c : Int) * 64 + v - 128 = (c2 : Int)) := by show _ = _; omega
          have HB2 : Hid (c2 < 32 * 64 ^ (i + 1 - 1)) := by rw [← hc2]; exact HB
          have g1 : decide ((v : Int) < 128) = false := decide_eq_false (by omega)
          have g2 : decide ((191 : Int) < v) = false := decide_eq_false (by omega)
          have HR' : Hid (2 - (i + 1) = r) := hr'
          clear e HJ HR hr hr' hbad hb1 hc2 HB HC
          go_wp2
          go_round
          case rel => exact ⟨i + 1, c2, by omega, by omega, HB2, by rw [HC2.out], by go_num, by rw [HR'.out]; exact HE⟩
          case measure => simp [intOf]; omega
    · have e := HJ.out
      have hin2 : i = 2 := by omega
      have HC1 := bound64e c 2 (by omega) (by have := HC.out; rw [hin2] at this; exact this)
      subst hin2
      rw [longF] at e
      have HE : Hid (some c = R) := e
      clear e HJ HR HC
      by_cases hbad : c < 128 ∨ 1114111 < c ∨ 55296 ≤ c ∧ c < 57344
      · have HF : Hid (longE 2 128 R = 0) := by show _ = _; rw [← HE.out, longE, if_pos hbad]
        have hcase : decide ((c : Int) < 128) = true ∨ (decide ((c : Int) < 128) = false ∧ decide ((1114111 : Int) < c) = true) ∨ (decide ((c : Int) < 128) = false ∧ decide ((1114111 : Int) < c) = false ∧ decide ((55296 : Int) ≤ c) = true ∧ decide ((c : Int) < 57344) = true) := by
          simp only [decide_eq_true_eq, decide_eq_false_iff_not]; omega
        clear hbad
        rcases hcase with g1 | ⟨g1, g2⟩ | ⟨g1, g2, g3, g4⟩
        all_goals
          go_wp2
          go_ret
          exact ⟨by rw [HF.out]; rfl, rfl⟩
      · have HF : Hid (longE 2 128 R = 2) := by show _ = _; rw [← HE.out, longE, if_neg hbad]
        have hcase : (decide ((c : Int) < 128) = false ∧ decide ((1114111 : Int) < c) = false ∧ decide ((55296 : Int) ≤ c) = false) ∨ (decide ((c : Int) < 128) = false ∧ decide ((1114111 : Int) < c) = false ∧ decide ((55296 : Int) ≤ c) = true ∧ decide ((c : Int) < 57344) = false) := by
          simp only [decide_eq_true_eq, decide_eq_false_iff_not]; omega
        clear hbad
        rcases hcase with ⟨g1, g2, g3⟩ | ⟨g1, g2, g3, g4⟩
        all_goals
          go_wp2
          go_ret
          exact ⟨by rw [HF.out]; rfl, rfl⟩
set_option maxRecDepth 100000 in
set_option maxHeartbeats 1600000 in
theorem Long_none (s : ByteArray) (k : Nat) (w : World) (hk : k < s.size) (hs : s.size ≤ 9223372036854775807) (h1 : 128 ≤ (s.data.toList.getD k 0).toNat) (h2 : (s.data.toList.getD k 0).toNat < 192 ∨ 248 ≤ (s.data.toList.getD k 0).toNat) :
    Calls Try.prog 47 #[.string s, .int .i64 k] w fun e w' => e = .returned (.int .i64 0) ∧ w = w' := by
  have hix0 := fun wx => str_index s k k rfl hk wx
  have hlt256 : (s.data.toList.getD k 0).toNat < 256 := (s.data.toList.getD k 0).toNat_lt
  generalize (s.data.toList.getD k 0).toNat = b at *
  have f0 : (128 : Int) ≤ b := by omega
  have hlt' : (b : Int) < 256 := by omega
  rcases h2 with h2 | h2
  · have f3 : decide ((240 : Int) ≤ b) = false := decide_eq_false (by omega)
    have f4 : decide ((224 : Int) ≤ b) = false := decide_eq_false (by omega)
    have f5 : decide ((192 : Int) ≤ b) = false := decide_eq_false (by omega)
    go_enter Try.func47, Try.ntmps47
    go_wp2
    go_ret
    exact ⟨rfl, rfl⟩
  · have f1 : (240 : Int) ≤ b := by omega
    have f2 : decide ((b : Int) < 248) = false := decide_eq_false (by omega)
    have f3 : (224 : Int) ≤ b := by omega
    have f4 : decide ((b : Int) < 240) = false := decide_eq_false (by omega)
    have f5 : (192 : Int) ≤ b := by omega
    have f6 : decide ((b : Int) < 224) = false := decide_eq_false (by omega)
    go_enter Try.func47, Try.ntmps47
    go_wp2
    go_ret
    exact ⟨rfl, rfl⟩
set_option maxRecDepth 100000 in
set_option maxHeartbeats 1600000 in
theorem Long_one (s : ByteArray) (k : Nat) (w : World) (hk : k < s.size) (hs : s.size ≤ 9223372036854775807) (h1 : (s.data.toList.getD k 0).toNat < 128) :
    Calls Try.prog 47 #[.string s, .int .i64 k] w fun e w' => e = .returned (.int .i64 1) ∧ w = w' := by
  have hix0 := fun wx => str_index s k k rfl hk wx
  generalize (s.data.toList.getD k 0).toNat = b at *
  have f0 : (b : Int) < 128 := by omega
  have f3 : decide ((240 : Int) ≤ b) = false := decide_eq_false (by omega)
  have f4 : decide ((224 : Int) ≤ b) = false := decide_eq_false (by omega)
  have f5 : decide ((192 : Int) ≤ b) = false := decide_eq_false (by omega)
  have f6 : decide ((128 : Int) ≤ b) = false := decide_eq_false (by omega)
  have f7 : decide ((b : Int) < 0) = false := decide_eq_false (by omega)
  have f8 : decide ((1114111 : Int) < b) = false := decide_eq_false (by omega)
  have f9 : decide ((55296 : Int) ≤ b) = false := decide_eq_false (by omega)
  go_enter Try.func47, Try.ntmps47
  go_wp2
  refine wp_loop_rounds 1 ?_
  rw [rounds_succ]
  go_wp2
  go_ret
  exact ⟨rfl, rfl⟩
theorem Long_any (s : ByteArray) (k : Nat) (w : World) (hk : k < s.size) (hs : s.size ≤ 9223372036854775807) :
    Calls Try.prog 47 #[.string s, .int .i64 k] w fun e w' => e = .returned (.int .i64 (longL (s.data.toList.drop k) : Nat)) ∧ w = w' := by
  have hz : s.data.toList.length = s.size := by rw [Array.length_toList]; rfl
  rw [drop_at _ k (by rw [hz]; exact hk), longL]
  have hlt256 : (s.data.toList.getD k 0).toNat < 256 := (s.data.toList.getD k 0).toNat_lt
  by_cases c4 : 240 ≤ (s.data.toList.getD k 0).toNat ∧ (s.data.toList.getD k 0).toNat < 248
  · rw [if_pos c4]; exact Long_four s k w hk hs c4.1 c4.2
  · rw [if_neg c4]
    by_cases c3 : 224 ≤ (s.data.toList.getD k 0).toNat ∧ (s.data.toList.getD k 0).toNat < 240
    · rw [if_pos c3]; exact Long_three s k w hk hs c3.1 c3.2
    · rw [if_neg c3]
      by_cases c2 : 192 ≤ (s.data.toList.getD k 0).toNat ∧ (s.data.toList.getD k 0).toNat < 224
      · rw [if_pos c2]; exact Long_two s k w hk hs c2.1 c2.2
      · rw [if_neg c2]
        by_cases c1 : 128 ≤ (s.data.toList.getD k 0).toNat
        · rw [if_pos c1]; exact Long_none s k w hk hs c1 (by omega)
        · rw [if_neg c1]; exact Long_one s k w hk hs (by omega)
end Go.Proofs.Ytkdocjcpehmljaa
/- vidimusref01.IsName over the translated program: it tells something. -/
namespace Go.Proofs.Ytkdocjcpehmljaa
open Go.RowKit
theorem longL_le (l : List UInt8) : longL l ≤ 4 := by
  have he : ∀ n least (R : Option Nat), longE n least R ≤ n := by
    intro n least R
    cases R with
    | none => exact Nat.zero_le _
    | some c => rw [longE]; split <;> omega
  cases l with
  | nil => simp [longL]
  | cons b t =>
    rw [longL]
    split
    · exact he _ _ _
    · split
      · exact Nat.le_trans (he _ _ _) (by omega)
      · split
        · exact Nat.le_trans (he _ _ _) (by omega)
        · split <;> omega
/-- A call that tells yes or no, and leaves all as it was. -/
def RetQ (w0 : World) (e : Ending) (w' : World) : Prop := ∃ b, e = .returned (.bool b) ∧ w0 = w'
theorem longF_len (r c : Nat) (t : List UInt8) (x : Nat) (h : longF r c t = some x) : r ≤ t.length := by
  induction r generalizing c t with
  | zero => exact Nat.zero_le _
  | succ r ih =>
    cases t with
    | nil => simp [longF] at h
    | cons b t =>
      rw [longF] at h
      split at h
      · cases h
      · have := ih _ _ h
        simp; omega
theorem longE_len (n least r c : Nat) (t : List UInt8) (hn : n = r + 1) : longE n least (longF r c t) ≤ t.length + 1 := by
  cases hx : longF r c t with
  | none => simp [longE]
  | some x =>
    have := longF_len r c t x hx
    rw [longE]; split <;> omega
theorem longL_len (l : List UInt8) : longL l ≤ l.length := by
  cases l with
  | nil => simp [longL]
  | cons b t =>
    rw [longL, List.length_cons]
    split
    · exact longE_len _ _ _ _ _ rfl
    · split
      · exact longE_len _ _ _ _ _ rfl
      · split
        · exact longE_len _ _ _ _ _ rfl
        · split <;> omega
set_option maxRecDepth 100000 in
set_option maxHeartbeats 1600000 in
theorem IsName_any (s : ByteArray) (w : World) (hs : s.size ≤ 9223372036854775807) :
    Calls Try.prog 38 #[.string s] w (RetQ w) := by
  go_enter Try.func38, Try.ntmps38
  go_wp2
  go_loop [3, 4] (fun mm ii => ∃ (i m : Nat), mm = .int .i64 m ∧ ii = .int .i64 i ∧ m ≤ i ∧ i ≤ s.size) (fun _ ii => s.size - (intOf ii).toNat)
  case atStart => exact ⟨0, 0, rfl, rfl, by omega, by omega⟩
  case round =>
    obtain ⟨i, m, rfl, rfl, hmi, hi4⟩ := hrel
    by_cases hlt : i < s.size
    · have cL := Long_any s i w hlt (by omega)
      have hix := fun wx => str_index s i i rfl hlt wx
      have hL4 := longL_len (s.data.toList.drop i)
      rw [List.length_drop, show s.data.toList.length = s.size by rw [Array.length_toList]; rfl] at hL4
      have hlt' : (i : Int) < s.size := by omega
      generalize longL (s.data.toList.drop i) = L at *
      generalize (s.data.toList.getD i 0).toNat = v at *
      by_cases hbad : L = 0 ∨ v < 32 ∨ v = 127
      · have hcase : ((L : Int) == 0) = true ∨ (((L : Int) == 0) = false ∧ decide ((v : Int) < 32) = true) ∨ (((L : Int) == 0) = false ∧ decide ((v : Int) < 32) = false ∧ ((v : Int) == 127) = true) := by
          simp only [beq_iff_eq, beq_eq_false_iff_ne, decide_eq_true_eq, decide_eq_false_iff_not, ne_eq]; omega
        clear hbad
        rcases hcase with g1 | ⟨g1, g2⟩ | ⟨g1, g2, g3⟩
        all_goals
          go_wp2_with (go_at_call 47; refine cL.mono ?_; rintro e w' ⟨rfl, rfl⟩)
          go_ret
          exact ⟨_, rfl, rfl⟩
      · have g1 : ((L : Int) == 0) = false := by rw [beq_eq_false_iff_ne]; omega
        have g2 : decide ((v : Int) < 32) = false := decide_eq_false (by omega)
        have g3 : ((v : Int) == 127) = false := by rw [beq_eq_false_iff_ne]; omega
        have hL1 : 1 ≤ L := by omega
        clear hbad
        go_wp2_with (go_at_call 47; refine cL.mono ?_; rintro e w' ⟨rfl, rfl⟩)
        go_round
        case rel => exact ⟨i + L, m + 1, by go_num, by go_num, by omega, by omega⟩
        case measure => simp [intOf]; omega
    · by_cases h1 : 1 ≤ m
      · have h1' : (1 : Int) ≤ m := by omega
        by_cases h40 : m ≤ 40
        · have h40' : (m : Int) ≤ 40 := by omega
          go_wp2
          go_ret
          exact ⟨_, rfl, rfl⟩
        · have h40' : decide ((m : Int) ≤ 40) = false := decide_eq_false (by omega)
          go_wp2
          go_ret
          exact ⟨_, rfl, rfl⟩
      · obtain rfl : m = 0 := by omega
        clear h1
        go_wp2
        go_ret
        exact ⟨_, rfl, rfl⟩
end Go.Proofs.Ytkdocjcpehmljaa
