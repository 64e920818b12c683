/-
  The reference's Of over the translated program.
-/
import Derived.Test.YtnnoflohekmnbaaProg
import Derived.WalkKit
import Derived.WalkSpells
import Derived.WalkLawsBesides
import Derived.LoopN
import Derived.IntWalk
import Derived.Lib.Hide
import Derived.Test.YtnnoflohekmnbaaN8
import Derived.Test.YtnnoflohekmnbaaD1
import Derived.Laws.BitsAllLaws
import Derived.Laws.Externs
import Derived.BigQuiet
import Derived.BigRegion
import Derived.Deep.QuietTactic
import Derived.Deep.RegionWith
import Derived.Deep.RegionHeld3
import Derived.StillTailTactics
import Derived.RegionTactic
import Derived.ChangeAlike
set_option linter.unusedVariables false
namespace Go.Proofs.Ytnnoflohekmnbaa
open Go.RowKit
/-- Limb q of N. -/
def lmb (N q : Nat) : Nat := N / 2 ^ (64 * q) % 18446744073709551616
theorem lmb_zero (q : Nat) : lmb 0 q = 0 := by simp [lmb]
theorem lmb_same (N q r : Nat) (hr : r < 64) (hN : N < 2 ^ (64 * q + r)) : lmb N q < 2 ^ r ∧ lmb (N + 2 ^ (64 * q + r)) q = lmb N q + 2 ^ r := by
  have h1 : N / 2 ^ (64 * q) < 2 ^ r := Nat.div_lt_of_lt_mul (by rw [← Nat.pow_add]; exact hN)
  have h2 : 2 ^ r ≤ 2 ^ 63 := Nat.pow_le_pow_right (by omega) (by omega)
  have h3 : (2 : Nat) ^ 63 = 9223372036854775808 := by decide
  unfold lmb
  have e : (N + 2 ^ (64 * q + r)) / 2 ^ (64 * q) = N / 2 ^ (64 * q) + 2 ^ r := by
    rw [Nat.pow_add, Nat.add_mul_div_left _ _ (Nat.two_pow_pos _)]
  rw [e]
  generalize N / 2 ^ (64 * q) = x at *
  generalize 2 ^ r = P at *
  rw [Nat.mod_eq_of_lt (by omega), Nat.mod_eq_of_lt (by omega)]
  exact ⟨h1, rfl⟩
theorem lmb_other (N q r p : Nat) (hr : r < 64) (hN : N < 2 ^ (64 * q + r)) (hp : p ≠ q) : lmb (N + 2 ^ (64 * q + r)) p = lmb N p := by
  unfold lmb
  rcases Nat.lt_or_gt_of_ne hp with h | h
  · have e : 2 ^ (64 * q + r) = 2 ^ (64 * p) * (18446744073709551616 * 2 ^ (64 * q + r - 64 * p - 64)) := by
      rw [show (18446744073709551616 : Nat) = 2 ^ 64 by decide, ← Nat.pow_add, ← Nat.pow_add]; congr 1; omega
    rw [e, Nat.add_mul_div_left _ _ (Nat.two_pow_pos _), Nat.add_mul_mod_self_left]
  · have h1 : 2 ^ (64 * q + r) * 2 ≤ 2 ^ (64 * p) := by rw [← Nat.pow_succ]; exact Nat.pow_le_pow_right (by omega) (by omega)
    generalize 2 ^ (64 * q + r) = P at *
    generalize 2 ^ (64 * p) = Q at *
    rw [Nat.div_eq_of_lt (by omega), Nat.div_eq_of_lt (by omega)]
/-- A new row of limbs, all 0. -/
def mkU (n : Nat) : Obj := .cells (madeCells #[.int .u64 0] n) 60
theorem mk64 (n : Nat) (hn : n ≤ 1001) (w : World) : (Instr.makeSlice 22 (.int .i64 (n : Int)) (.int .i64 (n : Int))).run Try.prog w = .ok (.slice (some ⟨w.heap.size, 0, none⟩) n n) (w.alloc (mkU n)) := by
  obtain ⟨i0, hi0, hz0, hz1, hz2⟩ := info_parts info60
  rw [run_make w 22 60 i0 _ Try.underlying22 hi0 hz0 .i64 .i64 n n (by omega) (by omega) (by rw [hz2]; omega) (by omega), hz1]
  simp [Value.cells, mkU]
/-- Block g holds k limbs of N, and may be written. -/
def Lq (w : World) (g k N : Nat) : Prop := ∀ q, q < k → w.cell? ⟨g, q, none⟩ = some (.int .u64 ((lmb N q : Nat) : Int)) ∧ w.frozen? ⟨g, q, none⟩ = false
theorem Lq.below {w w' : World} {B g k N : Nat} (h : Lq w g k N) (hb : Below B w w') (hg : g < B) : Lq w' g k N := fun i hi =>
  ⟨(hb.cell (p := ⟨g, i, none⟩) hg).trans (h i hi).1, (hb.frozen (p := ⟨g, i, none⟩) hg).trans (h i hi).2⟩
theorem lq_made (w : World) (n : Nat) : Lq (w.alloc (mkU n)) w.heap.size n 0 := by
  intro i hi
  unfold mkU
  have hb := (MapKept.heap_alloc w (.cells (madeCells #[.int .u64 0] n) 60)).1
  constructor
  · have hl := toList_madeCells_one (.int .u64 0) n
    simp only [World.cell?, hb]
    have e1 : (madeCells #[Value.int .u64 0] n)[i]? = some (.int .u64 0) := by
      rw [← Array.getElem?_toList, hl]; simp [hi]
    rw [lmb_zero]
    simpa using e1
  · go_simp
theorem Lq.store {w : World} {g k N q r : Nat} (h : Lq w g k N) (hq : q < k) (hr : r < 64) (hN : N < 2 ^ (64 * q + r)) : Lq (w.setCell ⟨g, q, none⟩ (.int .u64 ((lmb N q + 2 ^ r : Nat) : Int))) g k (N + 2 ^ (64 * q + r)) := by
  intro p hp
  refine ⟨?_, by simp [(h p hp).2]⟩
  by_cases he : q = p
  · subst he
    rw [(lmb_same N q r hr hN).2]
    exact World.cell?_setCell_same _ _ _ (h q hq).1
  · rw [lmb_other N q r p hr hN (fun e => he e.symm), World.cell?_setCell_other _ _ _ _ (fun e => he (congrArg Addr.off e))]
    exact (h p hp).1
/-- The world of the reference's Of. -/
structure OfW (w wr : World) (W k N : Nat) : Prop where
  bel : Below w.heap.size w wr
  sz : w.heap.size + 1 + 1 < wr.heap.size
  res : Duo wr w.heap.size (.int .i64 0) (.slice none 0 0)
  out : Duo wr (w.heap.size + 1 + 1) (.int .i64 W) (.slice (some ⟨w.heap.size + 1, 0, none⟩) k k)
  lim : Lq wr (w.heap.size + 1) k N
theorem OfW.first (w : World) (W k : Nat) : OfW w (((w.alloc (.cells #[.int .i64 0, .slice none 0 0] 24)).alloc (mkU k)).alloc (.cells #[.int .i64 W, .slice (some ⟨w.heap.size + 1, 0, none⟩) k k] 24)) W k 0 := by
  refine ⟨bal (bal (bal (Below.refl _ _) _) _) _, by simp, ?_, ?_, ?_⟩
  · refine ⟨?_, ?_, ?_, ?_⟩ <;> (unfold mkU; go_simp)
  · refine ⟨?_, ?_, ?_, ?_⟩ <;> (unfold mkU; go_simp)
  · have h := lq_made (w.alloc (.cells #[.int .i64 0, .slice none 0 0] 24)) k
    have := h.below (bal (Below.refl _ _) (.cells #[.int .i64 W, .slice (some ⟨w.heap.size + 1, 0, none⟩) k k] 24)) (by simp)
    simpa using this
theorem OfW.nx {w wr w1 : World} {W k N : Nat} (h : OfW w wr W k N) (hb : Below wr.heap.size wr w1) : OfW w w1 W k N := by
  have hs := h.sz
  exact ⟨h.bel.trans (hb.mono (by omega)), by have := hb.size; omega, h.res.below hb (by omega), h.out.below hb (by omega), h.lim.below hb (by omega)⟩
theorem OfW.store {w wr : World} {W k N q r : Nat} (h : OfW w wr W k N) (hq : q < k) (hr : r < 64) (hN : N < 2 ^ (64 * q + r)) : OfW w (wr.setCell ⟨w.heap.size + 1, q, none⟩ (.int .u64 ((lmb N q + 2 ^ r : Nat) : Int))) W k (N + 2 ^ (64 * q + r)) := by
  have d1 := h.res
  have d2 := h.out
  have o : ∀ p : Addr, p.block ≠ w.heap.size + 1 → (wr.setCell ⟨w.heap.size + 1, q, none⟩ (.int .u64 ((lmb N q + 2 ^ r : Nat) : Int))).cell? p = wr.cell? p := fun p hp => World.cell?_setCell_other _ _ _ _ (fun e => hp (by rw [← e]))
  exact ⟨h.bel.setCell (by simp) _, by simpa using h.sz, ⟨(o _ (by simp)).trans d1.1, (o _ (by simp)).trans d1.2.1, by simp [d1.2.2.1], by simp [d1.2.2.2]⟩, ⟨(o _ (by simp)).trans d2.1, (o _ (by simp)).trans d2.2.1, by simp [d2.2.2.1], by simp [d2.2.2.2]⟩, h.lim.store hq hr hN⟩
theorem lq_list {w : World} {g k W N : Nat} (h : Lq w g k N) (hk : k = lm W) (h1 : 1 ≤ W) (h2 : W ≤ 128) (hN : N < 2 ^ W) (hg : g < w.heap.size) : Vc w w.heap.size ⟨g, 0, none⟩ k W N := by
  subst hk
  have hadd : ∀ i, (⟨g, 0, none⟩ : Addr).add i = ⟨g, i, none⟩ := add_loc g
  refine ⟨h1, h2, hN, Nat.le_refl _, by unfold lm maxLen; omega, ?_⟩
  intro i hi
  have hlen : (lmL W N).length = lm W := by unfold lmL lm; split <;> simp <;> omega
  rw [hlen] at hi
  refine ⟨_, rfl, hg, ?_⟩
  rw [hadd, (h i hi).1]
  have e : (lmL W N).getD i 0 = lmb N i := by
    unfold lmL lmb
    by_cases hW : W ≤ 64
    · rw [if_pos hW]
      have : i = 0 := by unfold lm at hi; omega
      subst this
      have : N < 2 ^ 64 := Nat.lt_of_lt_of_le hN (Nat.pow_le_pow_right (by omega) hW)
      rw [two64] at this
      simp; omega
    · rw [if_neg hW]
      have : i = 0 ∨ i = 1 := by unfold lm at hi; omega
      have hl : N < 2 ^ 128 := Nat.lt_of_lt_of_le hN (Nat.pow_le_pow_right (by omega) h2)
      rw [two128] at hl
      rcases this with rfl | rfl
      · simp
      · simp [two64]; omega
  rw [e]
set_option maxRecDepth 100000 in
set_option maxHeartbeats 1600000 in
theorem refOf_any (A : Option Addr) (c : Nat) (l : List Bool) (w : World) (h : RB w w.heap.size A l) (h1 : 1 ≤ l.length) (h2 : l.length ≤ 128) :
    Calls Try.prog 35 #[.slice A l.length c] w (RetVec w l.length (nb l)) := by
  obtain ⟨k, hk⟩ : ∃ k, lm l.length = k := ⟨_, rfl⟩
  have hkb : 1 ≤ k ∧ k ≤ 2 := by unfold lm at hk; omega
  have ek : ((l.length : Int) + 63) / 64 = (k : Int) := by unfold lm at hk; omega
  have hmk := mk64 k (by omega)
  have F0 := Lib.hid (OfW.first w l.length k)
  have HK := Lib.hid hk
  have HR := Lib.hid h
  clear hk h
  go_enter Try.func35, Try.ntmps35
  go_wp2
  clear ek hmk
  go_loopw [4] (fun i wr => ∃ j : Nat, j ≤ l.length ∧ i = .int .i64 j ∧ OfW w wr l.length k (nb (l.take j))) (fun i _ => l.length - (intOf i).toNat)
  case atStart => exact ⟨0, Nat.zero_le _, rfl, F0.out⟩
  case round =>
    obtain ⟨j, hj, rfl, hw⟩ := hrel
    clear F0
    by_cases hlt : j < l.length
    · obtain ⟨ad, rfl, hbk, hc⟩ := HR.out j hlt
      replace hc := (hw.bel.cell (by rw [blk_add]; exact hbk)).trans hc
      have hjl : (j : Int) < l.length := by omega
      have hnx := nb_take l j hlt
      have hlt2 := nb_take_lt l j
      generalize l.getD j false = x at *
      cases x
      · have HN : Hid (nb (l.take (j + 1)) = nb (l.take j)) := by show _ = _; rw [hnx]; simp [bn]
        clear hnx HR HK hlt2
        have HWW := Lib.hid hw
        clear hw
        go_wp2
        go_roundw
        case rel => exact ⟨j + 1, by omega, by go_num, by rw [HN.out]; exact HWW.out⟩
        case measure => simp [intOf]; omega
      · obtain ⟨q, r, hq, hr, hqr⟩ : ∃ q r : Nat, (j : Int) / 64 = (q : Int) ∧ (j : Int) % 64 = (r : Int) ∧ j = 64 * q + r := ⟨j / 64, j % 64, by omega, by omega, by omega⟩
        have hr64 : r < 64 := by omega
        have hqk : q < k := by have := HK.out; unfold lm at this; omega
        have hN : nb (l.take j) < 2 ^ (64 * q + r) := by rw [← hqr]; exact hlt2
        have HS := Lib.hid (hw.store hqk hr64 hN)
        obtain ⟨l1, l2⟩ := lmb_same (nb (l.take j)) q r hr64 hN
        have HN : Hid (nb (l.take (j + 1)) = nb (l.take j) + 2 ^ (64 * q + r)) := by show _ = _; rw [hnx, hqr]; simp [bn]
        obtain ⟨x1, x2⟩ := hw.lim q hqk
        have x3 := hw.out.2.1
        have x4 : w.heap.size + 1 < wr.heap.size := by have := hw.sz; omega
        have x5 := hw.sz
        have H : Hid (∀ wx, Calls Try.prog 36 #[.int .i64 (r : Int)] wx fun e w' => e = .returned (.int .u64 ((2 ^ r : Nat) : Int)) ∧ wx = w') := fun wx => power_any r (by omega) wx
        have hp63 : 2 ^ r ≤ 9223372036854775808 := by
          have : 2 ^ r ≤ 2 ^ 63 := Nat.pow_le_pow_right (by omega) (by omega)
          exact this
        have ew : IntKind.u64.wrap (((lmb (nb (l.take j)) q : Nat) : Int) + ((2 ^ r : Nat) : Int)) = ((lmb (nb (l.take j)) q + 2 ^ r : Nat) : Int) := by
          rw [IntKind.wrap_u64]; generalize lmb (nb (l.take j)) q = y at *; generalize 2 ^ r = P at *; omega
        generalize lmb (nb (l.take j)) q = y at *
        generalize 2 ^ r = P at *
        have hqk' : (q : Int) < (k : Int) := by omega
        have hq0 : 0 ≤ (q : Int) := by omega
        have hq2 : (j : Int).tdiv 64 = (q : Int) := by rw [Int.tdiv_eq_ediv_of_nonneg (by omega)]; exact hq
        have hr2 : (j : Int).tmod 64 = (r : Int) := by rw [Int.tmod_eq_emod_of_nonneg (by omega)]; exact hr
        have hq3 : IntKind.i64.wrap (q : Int) = (q : Int) := IntWalk.i64_in _ (by omega)
        have hr3 : IntKind.i64.wrap (r : Int) = (r : Int) := IntWalk.i64_in _ (by omega)
        clear hnx hlt2 hN l1 l2 hp63 hw HR HK hqr
        go_wp2_with fail
        go_region_with (first | (go_at_call 36; refine (H.out _).mono ?_; rintro e w1 ⟨rfl, rfl⟩))
        all_goals
          go_wp2
          go_roundw
          case rel =>
            refine ⟨j + 1, by omega, by go_num, ?_⟩
            rw [HN.out]
            have h9 := HS.out
            rw [Int.natCast_add] at h9
            exact h9.nx (Below.refl _ _).drew
          case measure => simp [intOf]; omega
    · obtain rfl : j = l.length := by omega
      rw [List.take_length] at hw
      have x1 := hw.out.1
      have x2 := hw.out.2.1
      obtain ⟨y1, y2, y3, y4⟩ := hw.res
      have x5 := hw.sz
      have x6 : w.heap.size < wr.heap.size := by omega
      have HV := Lib.hid (lq_list hw.lim HK.out.symm h1 h2 (nb_lt l) (by omega))
      have HB := Lib.hid hw.bel
      have hk := HK.out
      subst hk
      clear hw HR HK
      go_wp2
      refine bodyPost_ret (v := .agg #[.int .i64 (l.length : Int), .slice (some ⟨w.heap.size + 1, 0, none⟩) (lm l.length) (lm l.length)]) (by simp [results, Try.results35, go_sem, y1, y2]) rfl ⟨_, _, rfl, ?_, ?_, ?_⟩
      · exact HV.out.st (by simp) _ _
      · simp
      · exact (HB.out.setCell (by simp) _).setCell (by simp) _
end Go.Proofs.Ytnnoflohekmnbaa
