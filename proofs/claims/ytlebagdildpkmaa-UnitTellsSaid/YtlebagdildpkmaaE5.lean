/-
  The reference's Refutes.
-/
import Derived.Test.YtlebagdildpkmaaProg
import Derived.WalkKit
import Derived.WalkSpells
import Derived.WalkLawsBesides
import Derived.Lib.Hide
import Derived.BigQuiet
import Derived.Deep.QuietTactic
import Derived.Deep.RegionWith
import Derived.Deep.RegionHeld3
import Derived.Test.YtlebagdildpkmaaE4
set_option linter.unusedVariables false
namespace Go.Proofs.Ytlebagdildpkmaa
open Go.RowKit
theorem neg_next (c : List Int) (i : Nat) (h : i < c.length) : negC (c.take (i + 1)) = negC (c.take i) ++ [-(c.getD i 0)] := by
  rw [take_snocI c i h]; simp [negC]
set_option maxHeartbeats 3000000 in
set_option maxRecDepth 100000 in
theorem refRefutes_any (LA AA : Option Addr) (k k' : Nat) (n : Int) (L : List (List Int)) (c : List Int) (w : World) (hL : RCk w w.heap.size LA L) (hR : RI w w.heap.size AA c) (hM : May L c) (hl : L.length ≤ 1000) (hal : c.length ≤ 90000) (hx : ∀ z, Forced L (negC c) z → z ≠ 0 ∧ -60 ≤ z ∧ z ≤ 60) :
    Calls Try.prog 16 #[.int .i64 n, .slice LA L.length k, .slice AA c.length k'] w (RetV w (.bool (clashB L (negC c)))) := by
  have hM' : May L (negC c) := ⟨hM.lits, neg_lits hM.alit, hM.tot, hM.len, hM.lens, by rw [negC_len]; exact hM.alen⟩
  have C1 : Hid (∀ wx A1 k1 n1, Below w.heap.size w wx → RI wx wx.heap.size A1 (negC c) → n1 = (negC c).length → Calls Try.prog 13 #[.int .i64 n, .slice LA L.length k, .slice A1 n1 k1] wx (RetIB wx (closeL L (negC c)) (clashB L (negC c)))) := Lib.hid fun wx A1 k1 n1 hb hr e => by
    subst e
    exact refClose_any LA A1 k k1 n L (negC c) wx (hL.nx hb) hr hM' hl (by rw [negC_len]; exact hal) hx
  have HR := Lib.hid hR
  have HX := Lib.hid hM.alit
  clear hL hR hM hM' hx
  generalize clashB L (negC c) = cb at *
  generalize closeL L (negC c) = F at *
  go_enter Try.func16, Try.ntmps16
  go_wp2
  go_loopg [7, 8] c.length (fun g s7 s8 wr => ∃ (i : Nat) (v : Value), i + g = c.length ∧ s8 = .int .i64 i ∧ s7 = v ∧ OwnI wr w.heap.size v (negC (c.take i)) ∧ Below w.heap.size w wr)
  case atStart => exact ⟨0, _, by omega, rfl, rfl, by simpa [negC] using OwnI.nil _ _, Below.refl _ _⟩
  case round =>
    obtain ⟨i, v, hi, rfl, rfl, hO, hb⟩ := hrel
    cases gk with
    | zero =>
      have q1 : ¬ ((i : Int) < c.length) := by omega
      have q2 : ¬ (i < c.length) := by omega
      rw [List.take_of_length_le (by omega)] at hO
      obtain ⟨A1, k1, hv, hr, _⟩ := hO.val
      obtain ⟨n1, hn1⟩ : ∃ n1, (negC c).length = n1 := ⟨_, rfl⟩
      rw [hn1] at hv
      subst hv
      have c1 := C1.out wr A1 k1 n1 hb hr hn1.symm
      have HB := Lib.hid hb
      clear hO hb hr hn1
      go_wp2_with fail
      (with_reducible refine c1.mono ?_); rintro e w2 ⟨v2, rfl, ho2, hb2⟩
      have HB2 := Lib.hid (bnx HB.out hb2)
      clear c1 ho2 hb2
      go_wp2
      go_ret
      exact ⟨rfl, HB2.out⟩
    | succ g =>
      have hil : i < c.length := by omega
      have hil' : (i : Int) < c.length := by omega
      obtain ⟨ad, rfl, hab, hcz⟩ := HR.out i hil
      have hcc := (hb.cell (p := ad.add i) (by rw [block_add]; exact hab)).trans hcz
      obtain ⟨x0, x1, x2⟩ := HX.out _ (getD_mem c i hil)
      have HNN := Lib.hid (neg_next c i hil)
      have hol : (negC (c.take i)).length ≤ 100000 := by simp [negC]; omega
      obtain ⟨A1, k1, hv, _⟩ := hO.val
      obtain ⟨n1, hn1⟩ : ∃ n1, (negC (c.take i)).length = n1 := ⟨_, rfl⟩
      rw [hn1] at hv
      subst hv
      clear hcz hn1
      generalize c.getD i 0 = x at *
      go_wp2_with (first | (at_builtin; refine wpI1 rfl (.tmp 17) (.tmp 23) rfl _ _ rfl hO (-x) rfl hb hol ?_) | fail)
      intro v' w' hO' hb'
      rw [← HNN.out] at hO'
      have HO' := Lib.hid hO'
      have HB' := Lib.hid hb'
      clear hO' hb' hO hb hcc
      go_wp2
      go_roundg g
      case measure => omega
      case rel => exact ⟨i + 1, v', by omega, by go_num, rfl, HO'.out, HB'.out⟩
end Go.Proofs.Ytlebagdildpkmaa
