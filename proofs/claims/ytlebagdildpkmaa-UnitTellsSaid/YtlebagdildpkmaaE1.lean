/-
  The reference's left.
-/
import Derived.Test.YtlebagdildpkmaaProg
import Derived.WalkKit
import Derived.WalkSpells
import Derived.WalkLawsBesides
import Derived.Lib.Hide
import Derived.BigQuiet
import Derived.Deep.QuietTactic
import Derived.Deep.RegionWith
import Derived.Deep.RegionHeld3
import Derived.Test.YtlebagdildpkmaaD5
import Derived.Deep.LoopGhost
set_option linter.unusedVariables false
namespace Go.Proofs.Ytlebagdildpkmaa
open Go.RowKit
/-- Which literal is left, and how many. -/
def lf (F : List Int) : Int → List Int → Int × Int
  | only, [] => if only = 0 then (0, 0) else (only, 1)
  | only, x :: t => if F.contains x = true then (0, 2) else if F.contains (-x) = true ∨ x = only then lf F only t else if only ≠ 0 then (0, 2) else lf F x t
theorem lf_spec {F u : List Int} (hu : Lits u) : ∀ (m k : Nat) (only : Int), k + m = u.length → Seen F u k only →
    ((lf F only (u.drop k)).2 = 0 ∧ (lf F only (u.drop k)).1 = 0 ∧ ∀ y ∈ u, -y ∈ F) ∨
    ((lf F only (u.drop k)).2 = 1 ∧ (lf F only (u.drop k)).1 ∈ u ∧ (lf F only (u.drop k)).1 ∉ F ∧ -(lf F only (u.drop k)).1 ∉ F ∧ ∀ y ∈ u, y = (lf F only (u.drop k)).1 ∨ -y ∈ F) ∨
    ((lf F only (u.drop k)).2 = 2 ∧ (lf F only (u.drop k)).1 = 0 ∧ ((∃ y ∈ u, y ∈ F) ∨ ∃ y z, y ∈ u ∧ z ∈ u ∧ y ≠ z ∧ -y ∉ F ∧ -z ∉ F))
  | 0, k, only, hk, hs => by
    have e : k = u.length := by omega
    subst e
    rw [List.drop_length, lf]
    by_cases h0 : only = 0
    · rw [if_pos h0]; subst h0
      exact .inl ⟨rfl, rfl, hs.none hu⟩
    · rw [if_neg h0]
      obtain ⟨o1, o2, o3⟩ := hs.2.resolve_left h0
      exact .inr (.inl ⟨rfl, o1, o2, o3, fun y hy => hs.1 y (by rw [List.take_length]; exact hy)⟩)
  | m + 1, k, only, hk, hs => by
    have hkl : k < u.length := by omega
    have hx := getD_mem u k hkl
    rw [show u.drop k = u.getD k 0 :: u.drop (k + 1) by rw [List.drop_eq_getElem_cons hkl]; simp [List.getD, hkl], lf]
    by_cases h1 : F.contains (u.getD k 0) = true
    · rw [if_pos h1]
      exact .inr (.inr ⟨rfl, rfl, .inl ⟨_, hx, by simpa using h1⟩⟩)
    · rw [if_neg h1]
      have h1' : u.getD k 0 ∉ F := by simpa using h1
      by_cases h2 : F.contains (-(u.getD k 0)) = true ∨ u.getD k 0 = only
      · rw [if_pos h2]
        refine lf_spec hu m (k + 1) only (by omega) (hs.next hkl ?_)
        rcases h2 with h | h
        · exact .inr (by simpa using h)
        · exact .inl h
      · rw [if_neg h2]
        have h2' : -(u.getD k 0) ∉ F := by
          intro hm; exact h2 (.inl (by simpa using hm))
        by_cases h3 : only ≠ 0
        · rw [if_pos h3]
          obtain ⟨o1, o2, o3⟩ := hs.2.resolve_left h3
          exact .inr (.inr ⟨rfl, rfl, .inr ⟨only, _, o1, hx, fun e => h2 (.inr e.symm), o3, h2'⟩⟩)
        · rw [if_neg h3]
          have h30 : only = 0 := by simpa using h3
          subst h30
          exact lf_spec hu m (k + 1) _ (by omega) (hs.set hu hkl h1' h2')
set_option maxHeartbeats 2000000 in
set_option maxRecDepth 100000 in
theorem left_any (FA CA : Option Addr) (kf kc : Nat) (F c : List Int) (w : World) (hF : RI w w.heap.size FA F) (hC : RI w w.heap.size CA c) (hx : Lits c) (hf : F.length ≤ maxLen) (hc : c.length ≤ 1000000) :
    Calls Try.prog 25 #[.slice FA F.length kf, .slice CA c.length kc] w (RetS w (.tuple #[.int .i64 (lf F 0 c).1, .int .i64 (lf F 0 c).2])) := by
  obtain ⟨a, b, hab⟩ : ∃ a b, lf F 0 c = (a, b) := ⟨_, _, rfl⟩
  rw [hab]
  have H0 : Hid (lf F 0 (c.drop 0) = (a, b)) := Lib.hid (by simpa using hab)
  have C : Hid (∀ x, Calls Try.prog 21 #[.slice FA F.length kf, .int .i64 x] w (RetS w (.bool (F.contains x)))) := Lib.hid fun x => In_any FA kf F x w hF hf
  have HC := Lib.hid hC
  have HX := Lib.hid hx
  clear hF hC hx hf hab
  go_enter Try.func25, Try.ntmps25
  go_wp2
  go_loopg [6, 7] c.length (fun g s6 s7 wr => ∃ (i : Nat) (only : Int), i + g = c.length ∧ s7 = .int .i64 i ∧ s6 = .int .i64 only ∧ Hid (lf F only (c.drop i) = (a, b)) ∧ w = wr)
  case atStart => exact ⟨0, 0, by omega, rfl, rfl, H0, rfl⟩
  case round =>
    obtain ⟨i, only, hi, rfl, rfl, HI, rfl⟩ := hrel
    clear H0
    cases gk with
    | zero =>
      have q1 : ¬ ((i : Int) < c.length) := by omega
      have q2 : ¬ (i < c.length) := by omega
      have e := HI.out
      rw [List.drop_of_length_le (by omega), lf] at e
      by_cases h0 : only = 0
      · rw [if_pos h0] at e
        simp only [Prod.mk.injEq] at e
        obtain ⟨rfl, rfl⟩ := e
        subst h0
        clear HI
        go_wp2
        go_ret2
        exact ⟨rfl, rfl⟩
      · rw [if_neg h0] at e
        simp only [Prod.mk.injEq] at e
        obtain ⟨rfl, rfl⟩ := e
        have d : (only == 0) = false := by rw [beq_eq_false_iff_ne]; exact h0
        clear HI
        go_wp2
        go_ret2
        exact ⟨rfl, rfl⟩
    | succ g =>
      have hil : i < c.length := by omega
      have hil' : (i : Int) < c.length := by omega
      obtain ⟨ad, rfl, hab, hcz⟩ := HC.out i hil
      obtain ⟨x0, x1, x2⟩ := HX.out _ (getD_mem c i hil)
      have e := HI.out
      rw [dropI c i hil, lf] at e
      clear HI
      generalize c.getD i 0 = x at *
      have c1 := C.out x
      have c2 := C.out (-x)
      by_cases h1 : F.contains x = true
      · rw [if_pos h1] at e
        simp only [Prod.mk.injEq] at e
        obtain ⟨rfl, rfl⟩ := e
        rw [h1] at c1
        clear h1
        generalize F.contains (-x) = b2 at *
        go_wp2_with fail
        refine c1.mono ?_; rintro e w1 ⟨rfl, rfl⟩
        go_wp2_with fail
        refine c2.mono ?_; rintro e w1 ⟨rfl, rfl⟩
        clear c1 c2
        go_wp2
        go_ret2
        exact ⟨rfl, rfl⟩
      · rw [if_neg h1] at e
        have h1f : F.contains x = false := by simpa using h1
        rw [h1f] at c1
        by_cases h2 : F.contains (-x) = true ∨ x = only
        · rw [if_pos h2] at e
          have HE := Lib.hid e
          have hd : F.contains (-x) = true ∨ (F.contains (-x) = false ∧ (x == only) = true) := by
            cases hx : F.contains (-x)
            · right; refine ⟨rfl, ?_⟩
              rcases h2 with h | h
              · rw [hx] at h; cases h
              · simp [h]
            · exact .inl rfl
          clear e h1 h1f h2
          rcases hd with hd | ⟨hd, d2⟩
          all_goals
            rw [hd] at c2
            clear hd
            go_wp2_with fail
            refine c1.mono ?_; rintro e w1 ⟨rfl, rfl⟩
            go_wp2_with fail
            refine c2.mono ?_; rintro e w1 ⟨rfl, rfl⟩
            clear c1 c2
            go_wp2
            go_roundg g
            case measure => omega
            case rel => exact ⟨i + 1, only, by omega, by go_num, rfl, HE, rfl⟩
        · rw [if_neg h2] at e
          have hb2 : F.contains (-x) = false := by
            cases hx : F.contains (-x)
            · rfl
            · exact absurd (.inl hx) h2
          have d2 : (x == only) = false := by rw [beq_eq_false_iff_ne]; exact fun e => h2 (.inr e)
          rw [hb2] at c2
          clear h1 h1f h2 hb2
          by_cases h3 : only ≠ 0
          · rw [if_pos h3] at e
            simp only [Prod.mk.injEq] at e
            obtain ⟨rfl, rfl⟩ := e
            have d3 : (only != 0) = true := by simp [h3]
            clear h3
            go_wp2_with fail
            refine c1.mono ?_; rintro e w1 ⟨rfl, rfl⟩
            go_wp2_with fail
            refine c2.mono ?_; rintro e w1 ⟨rfl, rfl⟩
            clear c1 c2
            go_wp2
            go_ret2
            exact ⟨rfl, rfl⟩
          · rw [if_neg h3] at e
            have HE := Lib.hid e
            obtain rfl : only = 0 := by simpa using h3
            clear e h3
            go_wp2_with fail
            refine c1.mono ?_; rintro e w1 ⟨rfl, rfl⟩
            go_wp2_with fail
            refine c2.mono ?_; rintro e w1 ⟨rfl, rfl⟩
            clear c1 c2
            go_wp2
            go_roundg g
            case measure => omega
            case rel => exact ⟨i + 1, x, by omega, by go_num, rfl, HE, rfl⟩
end Go.Proofs.Ytlebagdildpkmaa
