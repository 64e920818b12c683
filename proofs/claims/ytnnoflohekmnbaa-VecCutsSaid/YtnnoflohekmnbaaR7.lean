/-
  The reference's Ite; what VecCuts' calls tell, both ways.
-/
import Derived.Test.YtnnoflohekmnbaaProg
import Derived.WalkKit
import Derived.WalkSpells
import Derived.WalkLawsBesides
import Derived.LoopN
import Derived.IntWalk
import Derived.Lib.Hide
import Derived.Laws.BitsAllLaws
import Derived.Laws.Externs
import Derived.BigQuiet
import Derived.BigRegion
import Derived.Deep.QuietTactic
import Derived.Deep.RegionWith
import Derived.Deep.RegionHeld3
import Derived.StillTailTactics
import Derived.RegionTactic
import Derived.ChangeAlike
import Derived.Test.YtnnoflohekmnbaaR5
set_option linter.unusedVariables false
namespace Go.Proofs.Ytnnoflohekmnbaa
open Go.RowKit
set_option maxHeartbeats 400000 in
theorem refIte_erra (A B C : Value) (U W V : Int) (w : World) (h0 : U ≠ 1) : Calls Try.prog 31 #[.agg #[.int .i64 U, C], .agg #[.int .i64 W, A], .agg #[.int .i64 V, B]] w (RetErr w 5) := by
  have d1 : (U != 1) = true := by rw [bne_iff_ne]; exact h0
  go_enter Try.func31, Try.ntmps31
  go_wp2
  refine bodyPost_ret (v := .tuple #[.agg #[.int .i64 0, .slice none 0 0], .int .i64 5]) (by simp [results, Try.results31, go_sem]) rfl ⟨rfl, ?_⟩
  repeat (first | exact Below.refl _ _ | refine below_drewN ?_ _ | refine bal ?_ _)
set_option maxHeartbeats 400000 in
theorem refIte_errb (A B C : Value) (U W V : Int) (w : World) (h0 : U = 1) (h1 : W ≠ V) : Calls Try.prog 31 #[.agg #[.int .i64 U, C], .agg #[.int .i64 W, A], .agg #[.int .i64 V, B]] w (RetErr w 5) := by
  subst h0
  have d2 : (W != V) = true := by rw [bne_iff_ne]; exact h1
  go_enter Try.func31, Try.ntmps31
  go_wp2
  refine bodyPost_ret (v := .tuple #[.agg #[.int .i64 0, .slice none 0 0], .int .i64 5]) (by simp [results, Try.results31, go_sem]) rfl ⟨rfl, ?_⟩
  repeat (first | exact Below.refl _ _ | refine below_drewN ?_ _ | refine bal ?_ _)
theorem Vc.ltb {w : World} {B : Nat} {ad : Addr} {c W N : Nat} (h : Vc w B ad c W N) : ad.block < B := by
  obtain ⟨_, _, _, hb⟩ := h.limb 0 (by have := h.w1; unfold lm; omega)
  exact hb.1
theorem RetR.put {w w2 : World} {W N c g : Nat} {ad : Addr} {k : Nat} (hk : lm W = k) (hv : Vc w2 w2.heap.size ad c W N) (hb : Below w.heap.size w w2) (hg : w.heap.size ≤ g) (hf : ad.block ≠ g) {r0 r1 : Value} :
    RetR w (some (W, N)) 0 (.returned (.tuple #[.agg #[.int .i64 W, .slice (some ad) k c], .int .i64 0])) ((w2.setCell ⟨g, 0, none⟩ r0).setCell ⟨g, 1, none⟩ r1) := by
  subst hk
  exact ⟨_, _, _, _, rfl, ⟨rfl, rfl, ad, rfl, hv.st hf r0 r1⟩, (hb.setCell (by simp; omega) _).setCell (by simp; omega) _⟩
set_option maxRecDepth 100000 in
set_option maxHeartbeats 1000000 in
theorem refIte_any {w : World} {ac ad ad' : Addr} {cc c c' W M N K : Nat} (h3 : Vc w w.heap.size ac cc 1 M) (h : Vc w w.heap.size ad c W N) (h' : Vc w w.heap.size ad' c' W K) :
    Calls Try.prog 31 #[.agg #[.int .i64 1, .slice (some ac) 1 cc], .agg #[.int .i64 W, .slice (some ad) (lm W) c], .agg #[.int .i64 W, .slice (some ad') (lm W) c']] w (RetR w (some (W, if M = 1 then N else K)) 0) := by
  have hF0 := Fr4.first w (.int .i64 1) (.slice (some ac) 1 cc) (.int .i64 W) (.slice (some ad) (lm W) c) (.int .i64 W) (.slice (some ad') (lm W) c') (.int .i64 0) (.slice none 0 0) 24 24 24 24
  obtain ⟨_, _, hca, hba⟩ := h3.one (by omega)
  have hM := h3.n
  have HA := Lib.hid h
  have HB := Lib.hid h'
  have hg1 : ad.block < w.heap.size := h.ltb
  have hg2 : ad'.block < w.heap.size := h'.ltb
  have hcx := (hF0.bel.cell (p := ac) hba).trans hca
  have hM2 : M = 0 ∨ M = 1 := by omega
  generalize hk : lm W = k at *
  have HK := Lib.hid hk
  clear h h' h3 hk hF0 hca hM
  rcases hM2 with rfl | rfl
  · rw [if_neg (by omega)]
    go_enter Try.func31, Try.ntmps31
    go_wp2
    refine bodyPost_ret (v := .tuple #[.agg #[.int .i64 W, .slice (some ad') k c'], .int .i64 0]) (by simp [results, Try.results31, go_sem, *]) rfl ?_
    have hq := bal (bal (bal (bal (Below.refl w.heap.size w) (.cells #[.int .i64 1, .slice (some ac) 1 cc] 24)) (.cells #[.int .i64 W, .slice (some ad) k c] 24)) (.cells #[.int .i64 W, .slice (some ad') k c'] 24)) (.cells #[.int .i64 W, .slice (some ad') k c'] 24)
    exact ⟨_, _, _, _, rfl, ⟨rfl, HK.out.symm, ad', rfl, HB.out.nx hq⟩, hq⟩
  · rw [if_pos rfl]
    go_enter Try.func31, Try.ntmps31
    go_wp2
    refine bodyPost_ret (v := .tuple #[.agg #[.int .i64 W, .slice (some ad) k c], .int .i64 0]) (by simp [results, Try.results31, go_sem, *]) rfl ?_
    have hq := bal (bal (bal (bal (Below.refl w.heap.size w) (.cells #[.int .i64 1, .slice (some ac) 1 cc] 24)) (.cells #[.int .i64 W, .slice (some ad) k c] 24)) (.cells #[.int .i64 W, .slice (some ad') k c'] 24)) (.cells #[.int .i64 W, .slice (some ad) k c] 24)
    exact ⟨_, _, _, _, rfl, ⟨rfl, HK.out.symm, ad, rfl, HA.out.nx hq⟩, hq⟩
theorem slice_both {w : World} {ad : Addr} {c W N : Nat} (x0 x1 : Int) (h : Vc w w.heap.size ad c W N) : ∃ R e1, ∀ wx, Vc wx wx.heap.size ad c W N → Calls Try.prog 26 #[.agg #[.int .i64 W, .slice (some ad) (lm W) c], .int .i64 x0, .int .i64 x1] wx (RetR wx R e1) ∧ Calls Try.prog 27 #[.agg #[.int .i64 W, .slice (some ad) (lm W) c], .int .i64 x0, .int .i64 x1] wx (RetR wx R e1) := by
  by_cases a1 : x1 < 0
  · exact ⟨none, 5, fun wx _ => ⟨(Slice_erra _ W x0 x1 wx a1).mono fun _ _ h => h.r, (refSlice_erra _ W x0 x1 wx a1).mono fun _ _ h => h.r⟩⟩
  · by_cases a2 : x0 < x1
    · exact ⟨none, 5, fun wx _ => ⟨(Slice_errb _ W x0 x1 wx (by omega) a2).mono fun _ _ h => h.r, (refSlice_errb _ W x0 x1 wx (by omega) a2).mono fun _ _ h => h.r⟩⟩
    · by_cases a3 : (W : Int) ≤ x0
      · exact ⟨none, 5, fun wx _ => ⟨(Slice_errc _ W x0 x1 wx (by omega) (by omega) a3).mono fun _ _ h => h.r, (refSlice_errc _ W x0 x1 wx (by omega) (by omega) a3).mono fun _ _ h => h.r⟩⟩
      · obtain ⟨lo, rfl⟩ := Int.eq_ofNat_of_zero_le (show 0 ≤ x1 by omega)
        obtain ⟨hi, rfl⟩ := Int.eq_ofNat_of_zero_le (show 0 ≤ x0 by omega)
        exact ⟨_, 0, fun wx hx => ⟨(Slice_any hx hi lo (by omega) (by omega)).mono fun _ _ h => h.r, (refSlice_ok (m := hi - lo + 1) hx (by omega) (by omega) (by omega)).mono fun _ _ h => h.r⟩⟩
theorem ext_both {w : World} {ad : Addr} {c W N : Nat} (x2 : Int) (sg : Bool) (h : Vc w w.heap.size ad c W N) : ∃ R e1, ∀ wx, Vc wx wx.heap.size ad c W N → Calls Try.prog 28 #[.agg #[.int .i64 W, .slice (some ad) (lm W) c], .int .i64 x2, .bool sg] wx (RetR wx R e1) ∧ Calls Try.prog 29 #[.agg #[.int .i64 W, .slice (some ad) (lm W) c], .int .i64 x2, .bool sg] wx (RetR wx R e1) := by
  have h1 := h.w1
  have h2 := h.w2
  by_cases a1 : x2 < 0
  · exact ⟨none, 5, fun wx _ => ⟨(Ext_erra _ W x2 sg wx a1).mono fun _ _ h => h.r, (refExt_erra _ W x2 sg wx a1).mono fun _ _ h => h.r⟩⟩
  · by_cases a2 : 128 - (W : Int) < x2
    · exact ⟨none, 5, fun wx _ => ⟨(Ext_errb _ W x2 sg wx (by omega) (by omega) (by omega) a2).mono fun _ _ h => h.r, (refExt_errb _ W x2 sg wx (by omega) (by omega) (by omega) a2).mono fun _ _ h => h.r⟩⟩
    · obtain ⟨n, rfl⟩ := Int.eq_ofNat_of_zero_le (show 0 ≤ x2 by omega)
      have lo : ∀ l : List Bool, l.length = W → nb l = N → nb (l ++ List.replicate n false) = N % 2 ^ (W + n) := fun l hl hN => by rw [ext_low, hN, hl]
      have hi : ∀ l : List Bool, l.length = W → nb l = N → nb (l ++ List.replicate n true) = (N ||| (2 ^ 128 - 1 - (2 ^ W - 1))) % 2 ^ (W + n) := fun l hl hN => by rw [ext_high _ _ (by omega), hN, hl]
      cases sg
      · exact ⟨_, 0, fun wx hx => ⟨(Ext_plain hx n (by omega) N (Lib.hid fun _ _ h => h)).mono fun _ _ h => h.r, (refExt_walk hx n (by omega) false false rfl _ (Lib.hid lo)).mono fun _ _ h => h.r⟩⟩
      · cases ht : N.testBit (W - 1)
        · exact ⟨_, 0, fun wx hx => ⟨(Ext_low hx n (by omega) ht N (Lib.hid fun _ _ h => h)).mono fun _ _ h => h.r, (refExt_walk hx n (by omega) true false (by rw [ht]; rfl) _ (Lib.hid lo)).mono fun _ _ h => h.r⟩⟩
        · exact ⟨_, 0, fun wx hx => ⟨(Ext_high hx n (by omega) ht _ (Lib.hid fun _ _ h => h)).mono fun _ _ h => h.r, (refExt_walk hx n (by omega) true true (by rw [ht]; rfl) _ (Lib.hid hi)).mono fun _ _ h => h.r⟩⟩
theorem ite_both {ac ad ad' : Addr} {cc c c' U W V M N K : Nat} : ∃ R e1, ∀ wx, Vc wx wx.heap.size ac cc U M → Vc wx wx.heap.size ad c W N → Vc wx wx.heap.size ad' c' V K → Calls Try.prog 30 #[.agg #[.int .i64 U, .slice (some ac) (lm U) cc], .agg #[.int .i64 W, .slice (some ad) (lm W) c], .agg #[.int .i64 V, .slice (some ad') (lm V) c']] wx (RetR wx R e1) ∧ Calls Try.prog 31 #[.agg #[.int .i64 U, .slice (some ac) (lm U) cc], .agg #[.int .i64 W, .slice (some ad) (lm W) c], .agg #[.int .i64 V, .slice (some ad') (lm V) c']] wx (RetR wx R e1) := by
  by_cases a1 : U = 1
  · subst a1
    by_cases a2 : W = V
    · subst a2
      refine ⟨some (W, if M = 1 then N else K), 0, fun wx h3 h h' => ⟨?_, refIte_any h3 h h'⟩⟩
      have hM := h3.n
      have hM2 : M = 0 ∨ M = 1 := by omega
      rcases hM2 with rfl | rfl
      · exact (Ite_no h3 h h' rfl).mono fun _ _ h => h.r
      · exact (Ite_yes h3 h h' rfl).mono fun _ _ h => h.r
    · exact ⟨none, 5, fun wx _ _ _ => ⟨(Ite_errb _ _ _ 1 W V wx rfl (by omega)).mono fun _ _ h => h.r, (refIte_errb _ _ _ 1 W V wx rfl (by omega)).mono fun _ _ h => h.r⟩⟩
  · exact ⟨none, 5, fun wx _ _ _ => ⟨(Ite_erra _ _ _ U W V wx (by omega)).mono fun _ _ h => h.r, (refIte_erra _ _ _ U W V wx (by omega)).mono fun _ _ h => h.r⟩⟩
end Go.Proofs.Ytnnoflohekmnbaa
