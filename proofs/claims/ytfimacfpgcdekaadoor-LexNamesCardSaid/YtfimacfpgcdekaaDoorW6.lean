/-
  lex.mayName, lex.IsName over the translated program: what each returns, at every string, under the two tables of unicode/utf8 as its text lays them.
-/
import Derived.Test.YtfimacfpgcdekaaDoorW5
import Derived.Test.YtfimacfpgcdekaaDoorShelf
import Derived.Lib.ValidLaws
import Derived.Lib.TrimUEq
set_option linter.unusedVariables false
namespace Go.Proofs.YtfimacfpgcdekaaDoor
open Go.RowKit

def Tabs (w : World) : Prop := Lib.Utf8Tabs (Tryd.laysValid_ren.g 3) (Tryd.laysValid_ren.g 4) w
theorem Tabs.below {w w' : World} (h : Tabs w) (hb : Below w.heap.size w w') : Tabs w' := Utf8Tabs_below h hb

theorem Valid_any (s : ByteArray) (w : World) (hs : s.size ≤ maxLen) (hT : Tabs w) :
    Calls Tryd.prog 26 #[.string s] w fun e w' => e = .returned (.bool (Lib.validD s.data.toList)) ∧ Below w.heap.size w w' :=
  Any.utf8_ValidString Tryd.laysValid s w (by unfold maxLen at hs; omega) hT

set_option maxHeartbeats 400000 in
theorem mayName_yes (x : Int) (w : World) (h1 : 32 ≤ x) (h2 : ¬ x = 127) : Calls Tryd.prog 27 #[.int .i32 x] w fun e w' => e = .returned (.bool true) ∧ w = w' := by
  have h3 : (x != 127) = true := by simp [h2]
  clear h2
  go_enter Tryd.func27, Tryd.ntmps27
  go_wp2
  go_ret
  exact ⟨rfl, rfl⟩
set_option maxHeartbeats 400000 in
theorem mayName_no (x : Int) (w : World) (h : x < 32 ∨ x = 127) : Calls Tryd.prog 27 #[.int .i32 x] w fun e w' => e = .returned (.bool false) ∧ w = w' := by
  rcases h with h | rfl
  · have h3 : decide (32 ≤ x) = false := decide_eq_false (by omega)
    go_enter Tryd.func27, Tryd.ntmps27
    go_wp2
    go_ret
    exact ⟨rfl, rfl⟩
  · go_enter Tryd.func27, Tryd.ntmps27
    go_wp2
    go_ret
    exact ⟨rfl, rfl⟩

/-- The range over a name's runes: r have been met. -/
def nmF : Nat → Nat → List UInt8 → Bool
  | 0, r, _ => decide (0 < r)
  | f + 1, r, l => if l = [] then decide (0 < r) else if 40 ≤ r ∨ (Lib.decodeL l).1 < 32 ∨ (Lib.decodeL l).1 = 127 then false else nmF f (r + 1) (l.drop (Lib.decodeL l).2)
def isNm (l : List UInt8) : Bool := Lib.validD l && nmF l.length 0 l

set_option maxRecDepth 100000 in
set_option maxHeartbeats 800000 in
theorem IsName_any (s : ByteArray) (w : World) (hs : s.size ≤ maxLen) (hT : Tabs w) :
    Calls Tryd.prog 14 #[.string s] w fun e w' => e = .returned (.bool (isNm s.data.toList)) ∧ Below w.heap.size w w' := by
  have cV := Valid_any s w hs hT
  unfold maxLen at hs
  unfold isNm
  cases hv : Lib.validD s.data.toList with
  | false =>
    rw [hv] at cV
    clear hv hT
    go_enter Tryd.func14, Tryd.ntmps14
    go_wp2_with (go_at_call 26; refine cV.mono ?_; rintro e w' ⟨rfl, hb⟩)
    go_ret
    exact ⟨rfl, hb⟩
  | true =>
    rw [hv] at cV
    obtain ⟨R, hR⟩ : ∃ R, nmF s.data.toList.length 0 s.data.toList = R := ⟨_, rfl⟩
    rw [hR, Bool.true_and]
    have HR : Hid (nmF s.size 0 (s.data.toList.drop 0) = R) := hR
    clear hR hv hT
    go_enter Tryd.func14, Tryd.ntmps14
    go_wp2_with (go_at_call 26; refine cV.mono ?_; rintro e w1 ⟨rfl, hb⟩)
    go_loopw [3] (fun n wr => ∃ (pos b r : Nat), wr = w1.iter s pos ∧ n = .int .i64 r ∧ r ≤ 40 ∧ s.size ≤ pos + b ∧ Hid (nmF b r (s.data.toList.drop pos) = R)) (fun _ wr => s.size - wr.iterPos w1.heap.size)
    case atStart => exact ⟨0, s.size, 0, rfl, rfl, by omega, by omega, HR⟩
    case round =>
      obtain ⟨pos, b, r, rfl, rfl, hr, hbb, HJ⟩ := hrel
      have hbw : Hid (Below w.heap.size w (w1.iter s pos)) := hb.alloc hb.size _
      by_cases hp : pos < s.size
      · have hnx : ∀ ty, (Instr.next (.pointer (some ⟨w1.heap.size, 0, none⟩)) true ty).run Tryd.prog (w1.iter s pos) = _ := fun ty => run_next_any w1 s pos ty hp
        have hbw2 : Hid (Below w.heap.size w (w1.iter s (pos + (Utf8.decode s pos).2))) := hb.alloc hb.size _
        have hwd : 1 ≤ (Utf8.decode s pos).2 := by rw [← Lib.decodeL_drop]; exact Lib.decodeL_width _
        have e := HJ.out
        obtain ⟨b, rfl⟩ : ∃ b', b = b' + 1 := ⟨b - 1, by omega⟩
        have hne : s.data.toList.drop pos ≠ [] := by
          intro h; have := congrArg List.length h; simp only [List.length_drop, Array.length_toList, List.length_nil] at this
          have hz : s.data.size = s.size := rfl
          omega
        rw [nmF, if_neg hne, Lib.decodeL_drop, List.drop_drop] at e
        generalize Utf8.decode s pos = D at *
        obtain ⟨x, wd⟩ := D
        simp only at hnx hbw2 hwd e
        clear cV HJ HR hb hne
        by_cases h40 : 40 ≤ r
        · rw [if_pos (.inl h40)] at e
          have HE : Hid (false = R) := e
          have hg : (40 : Int) < (r : Int) + 1 := by omega
          clear e
          go_wp2_with (first | go_in)
          go_ret
          exact ⟨by rw [← HE.out]; rfl, hbw2.out⟩
        · have hg : decide ((40 : Int) < (r : Int) + 1) = false := decide_eq_false (by omega)
          have hx1 : (0 : Int) ≤ (x : Int) := by omega
          by_cases hbad : x < 32 ∨ x = 127
          · rw [if_pos (.inr hbad)] at e
            have HE : Hid (false = R) := e
            have HB : Hid ((x : Int) < 32 ∨ (x : Int) = 127) := by show _ ∨ _; omega
            clear e hbad
            go_wp2_with (go_at_call 27; refine (mayName_no _ _ HB.out).mono ?_; rintro e w' ⟨rfl, rfl⟩)
            go_ret
            exact ⟨by rw [← HE.out]; rfl, hbw2.out⟩
          · rw [if_neg (by omega)] at e
            have HE : Hid (nmF b (r + 1) (s.data.toList.drop (pos + wd)) = R) := e
            have HB : Hid ((32 : Int) ≤ (x : Int) ∧ ¬ (x : Int) = 127) := by show _ ∧ _; omega
            clear e hbad
            go_wp2_with (go_at_call 27; refine (mayName_yes _ _ HB.out.1 HB.out.2).mono ?_; rintro e w' ⟨rfl, rfl⟩)
            go_roundw
            case rel => exact ⟨pos + wd, b, r + 1, rfl, by go_num, by omega, by omega, HE⟩
            case measure => simp; omega
      · have hnx : ∀ ty, (Instr.next (.pointer (some ⟨w1.heap.size, 0, none⟩)) true ty).run Tryd.prog (w1.iter s pos) = _ := fun ty => run_next_end w1 s pos ty hp
        have e := HJ.out
        have hnil : s.data.toList.drop pos = [] := List.drop_of_length_le (by simp only [Array.length_toList]; have hz : s.data.size = s.size := rfl; omega)
        rw [hnil] at e
        have HE : Hid (decide (0 < r) = R) := by
          cases b with
          | zero => exact e
          | succ b => rw [nmF, if_pos rfl] at e; exact e
        clear cV HJ HR hb e hnil
        by_cases hr0 : 0 < r
        · have hr1 : (0 : Int) < r := by omega
          have HF : Hid (true = R) := by rw [← HE.out]; exact (decide_eq_true hr0).symm
          go_wp2
          go_ret
          exact ⟨by rw [← HF.out]; rfl, hbw.out⟩
        · have hr1 : decide ((0 : Int) < r) = false := decide_eq_false (by omega)
          have HF : Hid (false = R) := by rw [← HE.out]; exact (decide_eq_false hr0).symm
          obtain rfl : r = 0 := by omega
          clear hr0 hr1
          go_wp2
          go_ret
          exact ⟨by rw [← HF.out]; rfl, hbw.out⟩
end Go.Proofs.YtfimacfpgcdekaaDoor
