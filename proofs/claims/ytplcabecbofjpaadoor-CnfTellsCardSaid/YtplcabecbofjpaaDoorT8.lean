/-
  The reference's Figures.
-/
import Derived.Test.YtplcabecbofjpaaDoorProg
import Derived.WalkKit
import Derived.WalkSpells
import Derived.WalkLawsBesides
import Derived.Lib.Hide
import Derived.BigQuiet
import Derived.Deep.QuietTactic
import Derived.Deep.RegionWith
import Derived.Deep.RegionHeld3
import Derived.Test.YtplcabecbofjpaaDoorT7
import Derived.Test.YtplcabecbofjpaaDoorV1
set_option linter.unusedVariables false
namespace Go.Proofs.YtplcabecbofjpaaDoor
open Go.RowKit
theorem strOf_app (a b : List UInt8) : strOf a ++ strOf b = strOf (a ++ b) := by
  apply ByteArray.ext
  apply Array.ext'
  rw [strOf_data]
  simp [ByteArray.data_append, strOf]
theorem figs_short (u : Nat) (h : u ≤ 1000000000) : (figs u).length ≤ 10 := figs_len 9 u (by omega)
set_option maxHeartbeats 1600000 in
set_option maxRecDepth 100000 in
theorem refFig_nat : ∀ (f u : Nat), u ≤ f → u ≤ 1000000000 → ∀ w : World, Calls Tryd.prog 51 #[.int .i64 (u : Int)] w (RetV w (.string (strOf (figs u)))) := by
  intro f
  induction f with
  | zero =>
    intro u hu hb w
    obtain rfl : u = 0 := by omega
    have cv := conv_str (some ⟨w.heap.size, 0, none⟩) 1 1 [48] (w.heap.size + 1) (w.alloc (.cells #[.int .u8 48] 5)) (litRd w [48] _ (0, 0) rfl) rfl
    have HB := Lib.hid (bal (Below.refl w.heap.size w) (.cells #[.int .u8 48] 5))
    rw [figs_zero]
    go_enter Tryd.func51, Tryd.ntmps51
    go_wp2
    go_ret
    exact ⟨rfl, HB.out⟩
  | succ f ih =>
    intro u hu hb w
    have d0 : decide ((u : Int) < 0) = false := decide_eq_false (by omega)
    have hm : Int.tmod (u : Int) 10 = ((u % 10 : Nat) : Int) := rfl
    have hq : Int.tdiv (u : Int) 10 = ((u / 10 : Nat) : Int) := rfl
    have hq2 : (u : Int) / 10 = ((u / 10 : Nat) : Int) := by omega
    have hr10 : u % 10 < 10 := Nat.mod_lt _ (by omega)
    obtain ⟨d, hd⟩ : ∃ d, d = UInt8.ofNat (48 + u % 10) := ⟨_, rfl⟩
    have hdn : (d.toNat : Int) = 48 + ((u % 10 : Nat) : Int) := by rw [hd, fig_nat _ (by omega)]; omega
    have cv := conv_str (some ⟨w.heap.size, 0, none⟩) 1 1 [d] (w.heap.size + 1) (w.alloc (.cells #[.int .u8 (48 + ((u % 10 : Nat) : Int))] 5)) (litRd w [d] _ (0, 0) (by rw [← hdn]; rfl)) rfl
    have hbl := bal (Below.refl w.heap.size w) (.cells #[.int .u8 (48 + ((u % 10 : Nat) : Int))] 5)
    by_cases h9 : 9 < u
    · have d1 : decide ((u : Int) < 10) = false := decide_eq_false (by omega)
      have C := ih (u / 10) (by omega) (by omega) (w.alloc (.cells #[.int .u8 (48 + ((u % 10 : Nat) : Int))] 5))
      have hF : figs u = figs (u / 10) ++ [d] := by rw [hd]; exact figs_more u h9
      have hfl := figs_short (u / 10) (by omega)
      rw [hF, ← strOf_app]
      have z1 : (strOf (figs (u / 10))).size ≤ 10 := hfl
      have z2 : (strOf [d]).size = 1 := rfl
      rw [show (⟨[d].toArray⟩ : ByteArray) = strOf [d] from rfl] at cv
      generalize strOf (figs (u / 10)) = F at *
      generalize strOf [d] = D at *
      have y1 : ¬ (9223372036854775807 < F.size + D.size) := by omega
      have y2 : ¬ ((9223372036854775807 : Int) < (F.size : Int) + (D.size : Int)) := by omega
      have HB := Lib.hid hbl
      clear hF hd hdn ih hfl hbl z1 z2
      generalize hr : u % 10 = r at *
      generalize hqq : u / 10 = q at *
      clear hr hqq hu
      go_enter Tryd.func51, Tryd.ntmps51
      go_wp2_with fail
      refine C.mono ?_; rintro e w1 ⟨rfl, hb1⟩
      have HB1 := Lib.hid (bnx HB.out hb1)
      clear C hb1 cv
      go_wp2
      go_ret
      exact ⟨rfl, HB1.out⟩
    · have d1 : decide ((u : Int) < 10) = true := decide_eq_true (by omega)
      have hF : figs u = [d] := by rw [hd, figs_last u h9, show u % 10 = u by omega]
      rw [hF]
      rw [show (⟨[d].toArray⟩ : ByteArray) = strOf [d] from rfl] at cv
      generalize strOf [d] = D at *
      have HB := Lib.hid hbl
      clear hF hd hdn ih hbl
      generalize hr : u % 10 = r at *
      generalize hqq : u / 10 = q at *
      clear hr hqq hu
      go_enter Tryd.func51, Tryd.ntmps51
      go_wp2
      go_ret
      exact ⟨rfl, HB.out⟩
set_option maxHeartbeats 800000 in
set_option maxRecDepth 100000 in
/-- The reference's figures are strconv's. -/
theorem refFig_any (x : Int) (h0 : -1000000000 ≤ x) (h1 : x ≤ 1000000000) (w : World) : Calls Tryd.prog 51 #[.int .i64 x] w (RetV w (.string (strOf (Lib.itoa x)))) := by
  by_cases hx : 0 ≤ x
  · obtain ⟨u, rfl⟩ := Int.eq_ofNat_of_zero_le hx
    rw [itoa_nn]
    exact refFig_nat u u (Nat.le_refl _) (by omega) w
  · obtain ⟨u, hu⟩ := Int.eq_ofNat_of_zero_le (show 0 ≤ -x by omega)
    obtain rfl : x = -(u : Int) := by omega
    rw [itoa_ng u (by omega)]
    have C := refFig_nat u u (Nat.le_refl _) (by omega) w
    have hF : (45 :: figs u) = [45] ++ figs u := rfl
    rw [hF, ← strOf_app]
    have z1 : (strOf (figs u)).size ≤ 10 := figs_short u (by omega)
    rw [show strOf [45] = ⟨#[45]⟩ from rfl]
    generalize strOf (figs u) = F at *
    have y1 : ¬ (9223372036854775807 < 1 + F.size) := by omega
    have y2 : ¬ ((9223372036854775807 : Int) < 1 + (F.size : Int)) := by omega
    have d0 : decide (-(u : Int) < 0) = true := decide_eq_true (by omega)
    have nn : - -(u : Int) = (u : Int) := by omega
    have hpos : 0 < u := by omega
    clear hF z1 hu hx
    go_enter Tryd.func51, Tryd.ntmps51
    go_wp2_with fail
    refine C.mono ?_; rintro e w1 ⟨rfl, hb1⟩
    have HB1 := Lib.hid hb1
    clear C hb1
    go_wp2
    go_ret
    exact ⟨rfl, HB1.out⟩
end Go.Proofs.YtplcabecbofjpaaDoor
