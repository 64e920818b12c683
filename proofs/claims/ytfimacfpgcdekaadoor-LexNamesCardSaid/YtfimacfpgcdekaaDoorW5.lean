/-
  lex.Put over the translated program: the bytes of a number from 0 to MaxNum lie in a row of the call's own; of another number nil comes back.
-/
import Derived.Test.YtfimacfpgcdekaaDoorW4
set_option linter.unusedVariables false
namespace Go.Proofs.YtfimacfpgcdekaaDoor
open Go.RowKit
/-- A byte's value. -/
def bv (b : UInt8) : Value := .int .u8 (b.toNat : Int)
def Own (w : World) (base : Nat) (v : Value) (l : List UInt8) : Prop := w.ownsRow base 5 1 v l.length (l.map bv)
theorem u8_info : (Tryd.prog.info? 5).map (fun i => (i.zero, i.size, i.bytes)) = some (some (.int .u8 0), 1, 1) := by kernel_rfl

def putL (n : Nat) : List UInt8 := if h : 128 ≤ n then UInt8.ofNat (n % 128 + 128) :: putL (n / 128) else [UInt8.ofNat n]
termination_by n
decreasing_by omega
theorem putL_more (n : Nat) (h : 128 ≤ n) : putL n = UInt8.ofNat (n % 128 + 128) :: putL (n / 128) := by rw [putL, dif_pos h]
theorem putL_last (n : Nat) (h : n < 128) : putL n = [UInt8.ofNat n] := by rw [putL, dif_neg (by omega)]
theorem Own.snoc {w w' : World} {base : Nat} {v : Value} {l : List UInt8} {b : UInt8} (h : w'.ownsRow base 5 1 v (l.length + 1) (l.map bv ++ [bv b])) : Own w' base v (l ++ [b]) := by
  unfold Own
  simpa using h
set_option maxHeartbeats 400000 in
theorem Put_out (n : Int) (w : World) (h : n < 0 ∨ 2147483647 < n) :
    Calls Tryd.prog 17 #[.int .i64 n] w fun e w' => e = .returned (.slice none 0 0) ∧ w = w' := by
  have c : (n < 0) ∨ (¬ n < 0 ∧ 2147483647 < n) := by omega
  rcases c with c | ⟨c1, c2⟩
  all_goals
    clear h
    go_enter Tryd.func17, Tryd.ntmps17
    go_wp2
    go_ret
    exact ⟨rfl, rfl⟩
theorem putL_len : ∀ (f n : Nat), n < 128 ^ (f + 1) → (putL n).length ≤ f + 1 := by
  intro f
  induction f with
  | zero => intro n h; rw [putL_last n (by omega)]; simp
  | succ f ih =>
    intro n h
    by_cases h1 : 128 ≤ n
    · rw [putL_more n h1]
      have : n / 128 < 128 ^ (f + 1) := by rw [Nat.pow_succ] at h; exact Nat.div_lt_of_lt_mul (by rw [Nat.mul_comm]; exact h)
      have := ih _ this
      simp only [List.length_cons]; omega
    · rw [putL_last n (by omega)]; simp
theorem putL_five (n : Nat) (h : n ≤ 2147483647) : (putL n).length ≤ 5 := putL_len 4 n (by omega)
theorem bv_more (m : Nat) : Value.int .u8 ((m : Int) % 128 + 128) = bv (UInt8.ofNat (m % 128 + 128)) := by
  unfold bv
  have : (UInt8.ofNat (m % 128 + 128)).toNat = m % 128 + 128 := by simp [UInt8.toNat_ofNat'] <;> omega
  rw [this]; rfl
theorem bv_last (m : Nat) (h : m < 128) : Value.int .u8 (m : Int) = bv (UInt8.ofNat m) := by
  unfold bv
  have : (UInt8.ofNat m).toNat = m := by simp [UInt8.toNat_ofNat'] <;> omega
  rw [this]
set_option maxRecDepth 100000 in
set_option maxHeartbeats 800000 in
theorem Put_any (n : Nat) (w : World) (hn : n ≤ 2147483647) :
    Calls Tryd.prog 17 #[.int .i64 n] w fun e w' => ∃ v, e = .returned v ∧ Own w' w.heap.size v (putL n) ∧ Below w.heap.size w w' := by
  obtain ⟨i0, hi0, hz0, hz1, hz2⟩ := info_parts u8_info
  have h5 := putL_five n hn
  obtain ⟨R, hR⟩ : ∃ R, putL n = R := ⟨_, rfl⟩
  rw [hR] at h5 ⊢
  have HR : Hid (putL n = R) := hR
  clear hR
  have hcl : decide ((2147483647 : Int) < n) = false := decide_eq_false (by omega)
  have hcl2 : decide ((n : Int) < 0) = false := decide_eq_false (by omega)
  go_enter Tryd.func17, Tryd.ntmps17
  go_wp2
  go_loopw [0, 3] (fun a v wr => ∃ (m : Nat) (l : List UInt8), m ≤ 2147483647 ∧ a = .int .i64 m ∧ Own wr w.heap.size v l ∧ Below w.heap.size w wr ∧ Hid (l ++ putL m = R)) (fun a _ _ => (intOf a).toNat)
  case atStart => exact ⟨n, [], hn, rfl, World.ownsRow_nil _ _ _ _, Below.refl _ _, HR⟩
  case round =>
    obtain ⟨m, l, hm, rfl, hown, hb, HJ⟩ := hrel
    have e := HJ.out
    have hle : l.length ≤ 5 := by rw [← e, List.length_append] at h5; omega
    clear h5 HR HJ
    by_cases h128 : 128 ≤ m
    · rw [putL_more m h128] at e
      have HE : Hid ((l ++ [UInt8.ofNat (m % 128 + 128)]) ++ putL (m / 128) = R) := by show _ = _; rw [List.append_assoc]; exact e
      clear e
      have h128' : (128 : Int) ≤ m := by omega
      have hbs := hb.size
      go_wp2_with (first
        | (at_builtin; refine wpList_append_own _ rfl (.tmp 14) (.tmp 19) 22 rfl w.heap.size 5 i0 (.int .u8 0) 1 1 Tryd.underlying22 hi0 hz0 hz1 hz2 rfl (by decide) _ l.length (l.map bv) rfl (World.ownsRow.alloc hown _) ⟨wr.heap.size, 0, none⟩ 1 1 [.int .u8 ((m : Int) % 128 + 128)] rfl rfl ?c1 ?c2 ?c3 ?c4 ?c5 ?_))
      case c1 => exact cell_one_new _ _ _
      case c2 => intro u hu; simp at hu; subst hu; rfl
      case c3 => unfold maxLen; omega
      case c4 => omega
      case c5 => simp; omega
      · intro v' w1 hown' hgrow _
        go_wp2
        go_roundw
        case rel => 
          refine ⟨m / 128, l ++ [UInt8.ofNat (m % 128 + 128)], by omega, by go_num, ?_, ?_, HE⟩
          · rw [bv_more] at hown'; exact Own.snoc (w := wr) hown'
          · exact (hb.alloc hbs _).grown hgrow (by simp; omega) (fun k hk => ((World.ownsRow.lt hown) k hk).1)
        case measure => simp [intOf]; omega
    · rw [putL_last m (by omega)] at e
      have HE : Hid (l ++ [UInt8.ofNat m] = R) := e
      clear e
      have h128' : (m : Int) < 128 := by omega
      have hbs := hb.size
      go_wp2_with (first
        | (at_builtin; refine wpList_append_own _ rfl (.tmp 21) (.tmp 24) 22 rfl w.heap.size 5 i0 (.int .u8 0) 1 1 Tryd.underlying22 hi0 hz0 hz1 hz2 rfl (by decide) _ l.length (l.map bv) rfl (World.ownsRow.alloc hown _) ⟨wr.heap.size, 0, none⟩ 1 1 [.int .u8 (m : Int)] rfl rfl ?c1 ?c2 ?c3 ?c4 ?c5 ?_))
      case c1 => exact cell_one_new _ _ _
      case c2 => intro u hu; simp at hu; subst hu; rfl
      case c3 => unfold maxLen; omega
      case c4 => omega
      case c5 => simp; omega
      · intro v' w1 hown' hgrow _
        go_wp2
        go_ret
        refine ⟨_, rfl, ?_, (hb.alloc hbs _).grown hgrow (by simp; omega) (fun k hk => ((World.ownsRow.lt hown) k hk).1)⟩
        rw [← HE.out]
        rw [bv_last m (by omega)] at hown'; exact Own.snoc (w := wr) hown'
end Go.Proofs.YtfimacfpgcdekaaDoor
