/-
  The statement's own function figures over the translated program: the figures of a number from 0 to 4294967295 lie in a row of the call's own.
-/
import Derived.Test.YtfimacfpgcdekaaDoorM2
import Derived.Test.YtfimacfpgcdekaaDoorW9
set_option linter.unusedVariables false
namespace Go.Proofs.YtfimacfpgcdekaaDoor
open Go.RowKit
theorem Own.lit1 (w : World) (base : Nat) (b : UInt8) (hb : base ≤ w.heap.size) : Own (w.alloc (.cells #[bv b] 5)) base (.slice (some ⟨w.heap.size, 0, none⟩) 1 1) [b] := by
  have := World.ownsRow_lit (base := base) (e := 5) (size := 1) w #[bv b] 1 hb (by unfold maxLen; omega) rfl
  exact this
theorem bv_fig (m : Nat) (h : m ≤ 9) : Value.int .u8 (48 + (m : Int)) = bv (UInt8.ofNat (48 + m)) := by
  unfold bv
  rw [fig_nat m h]; rfl
theorem bv_fig10 (m : Nat) : Value.int .u8 (48 + (m : Int) % 10) = bv (UInt8.ofNat (48 + m % 10)) := by
  have := bv_fig (m % 10) (by omega)
  rw [← this]; rfl
set_option maxRecDepth 100000 in
set_option maxHeartbeats 800000 in
theorem figures_any (n : Nat) (w : World) (hn : n ≤ 4294967295) :
    Calls Tryd.prog 21 #[.int .i64 n] w fun e w' => ∃ v, e = .returned v ∧ Own w' w.heap.size v (figs n) ∧ Below w.heap.size w w' := by
  have h10 := figs_len 9 n (by omega)
  obtain ⟨R, hR⟩ : ∃ R, figs n = R := ⟨_, rfl⟩
  rw [hR] at h10 ⊢
  have HR : Hid (figs n ++ [] = R) := by show _ = _; rw [List.append_nil]; exact hR
  clear hR
  go_enter Tryd.func21, Tryd.ntmps21
  go_wp2
  go_loopw [0, 3] (fun a v wr => ∃ (m : Nat) (l : List UInt8), m ≤ 4294967295 ∧ a = .int .i64 m ∧ Own wr w.heap.size v l ∧ Below w.heap.size w wr ∧ Hid (figs m ++ l = R)) (fun a _ _ => (intOf a).toNat)
  case atStart => exact ⟨n, [], hn, rfl, World.ownsRow_nil _ _ _ _, Below.refl _ _, HR⟩
  case round =>
    obtain ⟨m, l, hm, rfl, hown, hb, HJ⟩ := hrel
    have e := HJ.out
    have hle : l.length ≤ 10 := by rw [← e, List.length_append] at h10; omega
    clear h10 HR HJ
    obtain ⟨A, c, rfl, hrd, hc1, hc2, hc3⟩ := hown.form
    have hbs := hb.size
    by_cases h9 : 9 < m
    · rw [figs_more m h9] at e
      have hbv := bv_fig10 m
      generalize UInt8.ofNat (48 + m % 10) = d at *
      have HE : Hid (figs (m / 10) ++ (d :: l) = R) := by show _ = _; rw [← e]; simp
      clear e
      have h9' : (9 : Int) < m := by omega
      have o1 := Own.lit1 wr w.heap.size d hbs
      have r1 : Rd (wr.alloc (.cells #[bv d] 5)) wr.heap.size A l := hrd.below ((Below.refl _ _).alloc (Nat.le_refl _) _)
      rw [← hbv] at o1 r1
      clear hown hrd hbv
      go_wp2_with (at_builtin; refine wpList_app rfl (.tmp 10) (.tmp 11) rfl w.heap.size _ [d] rfl o1 wr.heap.size A l.length c l rfl rfl r1 hc3 ?m2 ?m3 ?_)
      case m2 => simp only [List.length_singleton]; omega
      case m3 => simp; omega
      intro v' w1 o2 g2
      have b2 : Below w.heap.size w w1 := (hb.alloc hbs _).grown g2 (by simp; omega) (fun k hk => by simp [Value.ownBlock] at hk; omega)
      clear o1 r1 g2
      go_wp2
      go_roundw
      case rel => exact ⟨m / 10, d :: l, by omega, by go_num, o2, b2, HE⟩
      case measure => simp [intOf]; omega
    · rw [figs_last m h9] at e
      have hbv := bv_fig m (by omega)
      generalize UInt8.ofNat (48 + m) = d at *
      have HE : Hid (d :: l = R) := e
      clear e
      have h9' : (m : Int) ≤ 9 := by omega
      have o1 := Own.lit1 wr w.heap.size d hbs
      have r1 : Rd (wr.alloc (.cells #[bv d] 5)) wr.heap.size A l := hrd.below ((Below.refl _ _).alloc (Nat.le_refl _) _)
      rw [← hbv] at o1 r1
      clear hown hrd hbv
      go_wp2_with (at_builtin; refine wpList_app rfl (.tmp 18) (.tmp 19) rfl w.heap.size _ [d] rfl o1 wr.heap.size A l.length c l rfl rfl r1 hc3 ?m2 ?m3 ?_)
      case m2 => simp only [List.length_singleton]; omega
      case m3 => simp; omega
      intro v' w1 o2 g2
      have b2 : Below w.heap.size w w1 := (hb.alloc hbs _).grown g2 (by simp; omega) (fun k hk => by simp [Value.ownBlock] at hk; omega)
      rw [HE.out] at o2
      clear o1 r1 g2
      go_wp2
      go_ret
      exact ⟨_, rfl, o2, b2⟩
end Go.Proofs.YtfimacfpgcdekaaDoor
