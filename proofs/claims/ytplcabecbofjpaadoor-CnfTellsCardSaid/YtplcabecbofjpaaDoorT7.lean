/-
  The reference's Word, End.
-/
import Derived.Test.YtplcabecbofjpaaDoorProg
import Derived.WalkKit
import Derived.WalkSpells
import Derived.WalkLawsBesides
import Derived.Lib.Hide
import Derived.BigQuiet
import Derived.Deep.QuietTactic
import Derived.Deep.RegionWith
import Derived.Deep.RegionHeld3
import Derived.Test.YtplcabecbofjpaaDoorT6
set_option linter.unusedVariables false
namespace Go.Proofs.YtplcabecbofjpaaDoor
open Go.RowKit
set_option maxHeartbeats 800000 in
theorem Word_bad (A : Option Addr) (n c : Nat) (k bad : Int) (s : ByteArray) (w : World) (hbad : (bad != 0) = true) :
    Calls Tryd.prog 56 #[.agg #[.slice A n c, .int .i64 k, .int .i64 bad], .string s] w (RetV w (.agg #[.slice A n c, .int .i64 k, .int .i64 bad])) := by
  go_enter Tryd.func56, Tryd.ntmps56
  go_wp2
  refine bodyPost_ret (v := .agg #[.slice A n c, .int .i64 k, .int .i64 bad]) (by simp [results, Tryd.results56, go_sem]) rfl ⟨rfl, bal (bal (Below.refl _ _) _) _⟩
set_option maxHeartbeats 1600000 in
theorem Word_ok (A : Option Addr) (c k : Nat) (l : List UInt8) (s : ByteArray) (w : World) (h : Rd w w.heap.size A l) (hk : k ≤ l.length) (hn : l.length ≤ maxLen) (hs : s.size ≤ maxLen) :
    Calls Tryd.prog 56 #[.agg #[.slice A l.length c, .int .i64 k, .int .i64 0], .string s] w (RetV w (.agg #[.slice A l.length c, .int .i64 ((behS l k s : Nat) : Int), .int .i64 (behE l k s)])) := by
  have hb := bal (bal (Below.refl w.heap.size w) (.cells #[.slice A l.length c, .int .i64 k, .int .i64 0] 102)) (.cells #[.slice none 0 0, .int .i64 0, .int .i64 0] 102)
  have C := refIs_q A c k l s _ ((h.below hb).mono hb.size) hk hn hs
  obtain ⟨K, hK⟩ : ∃ K, behS l k s = K := ⟨_, rfl⟩
  have hE : behE l k s = if isB l k s then 0 else 2 := rfl
  rw [hE]
  rw [hK] at C ⊢
  have HB := Lib.hid hb
  clear hK hE h hb
  cases hB : isB l k s
  · rw [hB] at C
    rw [if_neg (by simp)]
    clear hB
    go_enter Tryd.func56, Tryd.ntmps56
    go_wp2_with fail
    refine C.mono ?_; rintro e w1 ⟨rfl, n, rfl⟩
    clear C
    go_wp2
    exact bodyPost_ret (v := .agg #[.slice A l.length c, .int .i64 (K : Int), .int .i64 2]) (by simp [results, Tryd.results56, go_sem]) rfl ⟨rfl, (((((below_drewN HB.out n).setCell (by simp) _).setCell (by simp) _).setCell (by simp) _).setCell (by simp) _).setCell (by simp) _⟩
  · rw [hB] at C
    rw [if_pos rfl]
    clear hB
    go_enter Tryd.func56, Tryd.ntmps56
    go_wp2_with fail
    refine C.mono ?_; rintro e w1 ⟨rfl, n, rfl⟩
    clear C
    go_wp2
    exact bodyPost_ret (v := .agg #[.slice A l.length c, .int .i64 (K : Int), .int .i64 0]) (by simp [results, Tryd.results56, go_sem]) rfl ⟨rfl, ((((below_drewN HB.out n).setCell (by simp) _).setCell (by simp) _).setCell (by simp) _).setCell (by simp) _⟩
set_option maxHeartbeats 1600000 in
theorem End_any (A : Option Addr) (n c k : Nat) (bad : Int) (w : World) :
    Calls Tryd.prog 58 #[.agg #[.slice A n c, .int .i64 k, .int .i64 bad]] w (RetV w (.agg #[.slice A n c, .int .i64 k, .int .i64 (if bad = 0 ∧ k < n then 2 else bad)])) := by
  have HB := Lib.hid (bal (bal (Below.refl w.heap.size w) (.cells #[.slice A n c, .int .i64 k, .int .i64 bad] 102)) (.cells #[.slice A n c, .int .i64 k, .int .i64 bad] 102))
  have HB2 := Lib.hid (bal (bal (Below.refl w.heap.size w) (.cells #[.slice A n c, .int .i64 k, .int .i64 bad] 102)) (.cells #[.slice none 0 0, .int .i64 0, .int .i64 0] 102))
  by_cases h0 : bad = 0
  · by_cases h1 : k < n
    · rw [if_pos ⟨h0, h1⟩]
      subst h0
      have d1 : decide ((k : Int) < n) = true := decide_eq_true (by omega)
      go_enter Tryd.func58, Tryd.ntmps58
      go_wp2
      exact bodyPost_ret (v := .agg #[.slice A n c, .int .i64 k, .int .i64 2]) (by simp [results, Tryd.results58, go_sem]) rfl ⟨rfl, by first | exact bal (bal (Below.refl _ _) _) _ | exact (((HB2.out.setCell (by simp) _).setCell (by simp) _).setCell (by simp) _).setCell (by simp) _⟩
    · rw [if_neg (fun h => h1 h.2)]
      subst h0
      have d1 : decide ((k : Int) < n) = false := decide_eq_false (by omega)
      go_enter Tryd.func58, Tryd.ntmps58
      go_wp2
      exact bodyPost_ret (v := .agg #[.slice A n c, .int .i64 k, .int .i64 0]) (by simp [results, Tryd.results58, go_sem]) rfl ⟨rfl, by first | exact bal (bal (Below.refl _ _) _) _ | exact ((HB2.out.setCell (by simp) _).setCell (by simp) _).setCell (by simp) _⟩
  · rw [if_neg (fun h => h0 h.1)]
    have d0 : (bad == 0) = false := by simp [h0]
    go_enter Tryd.func58, Tryd.ntmps58
    go_wp2
    exact bodyPost_ret (v := .agg #[.slice A n c, .int .i64 k, .int .i64 bad]) (by simp [results, Tryd.results58, go_sem]) rfl ⟨rfl, by first | exact bal (bal (Below.refl _ _) _) _ | exact ((HB2.out.setCell (by simp) _).setCell (by simp) _).setCell (by simp) _⟩
end Go.Proofs.YtplcabecbofjpaaDoor
