/-
  VecParts: a way through
-/
import Derived.Test.YtnnoflohekmnbaaProg
import Derived.WalkKit
import Derived.WalkSpells
import Derived.WalkLawsBesides
import Derived.LoopN
import Derived.IntWalk
import Derived.Lib.Hide
import Derived.Test.YtnnoflohekmnbaaG2
import Derived.Laws.BitsAllLaws
import Derived.Laws.Externs
import Derived.BigQuiet
import Derived.BigRegion
import Derived.Deep.QuietTactic
import Derived.Deep.RegionWith
import Derived.Deep.RegionHeld3
import Derived.StillTailTactics
import Derived.RegionTactic
import Derived.ChangeAlike
import Derived.Deep.DeepCutAuto
set_option linter.unusedVariables false
namespace Go.Proofs.Ytnnoflohekmnbaa
open Go.RowKit
set_option maxRecDepth 100000 in
set_option maxHeartbeats 16000000 in
theorem parts_yn {w : World} {ad ad' : Addr} {c c' W V N K W1 : Nat} (h : Vc w w.heap.size ad c W N) (h' : Vc w w.heap.size ad' c' V K) (i : Int) (n : Int) (U : Nat) (T1 T2 : ByteArray) (HU : Hid (W + V = U)) (HS : Hid (U ≤ 128)) (HT1 : Hid (txt W N = T1)) (HT2 : Hid (txt V K = T2)) (HT3 : Hid (txt U (f_cat W V N K) = T1 ++ T2)) (dL : ¬ 9223372036854775807 < T1.size + T2.size) (dS : decide ((W : Int) + (V : Int) ≤ 128) = true) (HE : Hid (∀ (X : Value) (wx : World) (_ : True), Calls Try.prog 28 #[.agg #[.int .i64 W, X], .int .i64 n, .bool true] wx (RetErr wx 5))) 
    (ws : IntKind.i64.wrap ((W : Int) + (V : Int)) = (W : Int) + (V : Int)) (w1 : IntKind.i64.wrap ((W : Int) - 1) = (W1 : Int)) (HW2 : Hid (W ≤ 128))
    (HC : Hid (decide (i < 1) = true ∨ (decide (i < 1) = false ∧ decide ((W : Int) ≤ i) = true) ∨ ∃ t t1 m1 : Nat, i = (t : Int) ∧ (t ≤ W1 ∧ W1 < W ∧ W1 + 1 = m1 + t ∧ t1 < W ∧ t1 + 1 = t ∧ m1 + t = W) ∧ f_cat m1 t (N / 2 ^ t % 2 ^ m1) (N % 2 ^ t) = N ∧ decide (i < 1) = false ∧ decide ((W : Int) ≤ i) = false ∧ IntKind.i64.wrap (i - 1) = (t1 : Int))) :
    Calls Try.prog 9 #[.agg #[.int .i64 W, .slice (some ad) (lm W) c, .int .i64 V, .slice (some ad') (lm V) c', .int .i64 i, .int .i64 n]] w (RetV w (.bool true)) := by
  have hB0 := Lib.hid (two_boxes (w := w.alloc (.cells #[.int .i64 W, .slice (some ad) (lm W) c, .int .i64 V, .slice (some ad') (lm V) c', .int .i64 i, .int .i64 n] 58)) (h.nx (bal (Below.refl _ _) _)) (h'.nx (bal (Below.refl _ _) _)))
  have hs : (w.alloc (.cells #[.int .i64 W, .slice (some ad) (lm W) c, .int .i64 V, .slice (some ad') (lm V) c', .int .i64 i, .int .i64 n] 58)).heap.size = w.heap.size + 1 := by simp
  clear h h'
  go_enter Try.func9, Try.ntmps9
  go_wp2_with fail
  obtain ⟨h_a, h_b, hB⟩ := hB0.out
  rw [hs] at h_a h_b hB
  clear hB0 hs
  replace hB := below_over2 hB
  generalize ((w.alloc (.cells #[.int .i64 W, .slice (some ad) (lm W) c, .int .i64 V, .slice (some ad') (lm V) c', .int .i64 i, .int .i64 n] 58)).alloc (.cells #[.int .i64 W, .slice (some ad) (lm W) c] 24)).alloc (.cells #[.int .i64 V, .slice (some ad') (lm V) c'] 24) = w0 at *
  go_wp2_with fail
  refine (shown_any _).mono ?_
  rintro e w1 ⟨rfl, hb1⟩
  replace h_a := h_a.nx hb1
  replace h_b := h_b.nx hb1
  replace hB := bnx hB hb1
  obtain ⟨p_a1, p_a2, p_a3⟩ := h_a.parts
  obtain ⟨p_b1, p_b2, p_b3⟩ := h_b.parts
  clear hb1
  go_wp2_with fail
  refine (refRight_vc h_a.v).mono ?_
  rintro e w2 ⟨rfl, hb2⟩
  clear p_a1 p_a2 p_a3 p_b1 p_b2 p_b3
  replace h_a := h_a.nx hb2
  replace h_b := h_b.nx hb2
  replace hB := bnx hB hb2
  obtain ⟨p_a1, p_a2, p_a3⟩ := h_a.parts
  obtain ⟨p_b1, p_b2, p_b3⟩ := h_b.parts
  clear hb2
  go_wp2_with fail
  refine (refRight_vc h_b.v).mono ?_
  rintro e w3 ⟨rfl, hb3⟩
  clear p_a1 p_a2 p_a3 p_b1 p_b2 p_b3
  replace h_a := h_a.nx hb3
  replace h_b := h_b.nx hb3
  replace hB := bnx hB hb3
  obtain ⟨p_a1, p_a2, p_a3⟩ := h_a.parts
  obtain ⟨p_b1, p_b2, p_b3⟩ := h_b.parts
  clear hb3
  go_wp2_with fail
  refine (C_cat h_a.v h_b.v HU.out HS.out).mono ?_
  rintro e w4 ⟨ad4, c4, rfl, hv4, hf4, hb4⟩
  clear p_a1 p_a2 p_a3 p_b1 p_b2 p_b3
  replace h_a := h_a.nx hb4
  replace h_b := h_b.nx hb4
  replace hB := bnx hB hb4
  obtain ⟨p_a1, p_a2, p_a3⟩ := h_a.parts
  obtain ⟨p_b1, p_b2, p_b3⟩ := h_b.parts
  clear hb4 hf4
  have hn_j := Va.new hv4 (lm U) (.int .i64 U)
  replace h_a := h_a.nx (bal (Below.refl _ _) (.cells #[.int .i64 U, .slice (some ad4) (lm U) c4] 24))
  replace h_b := h_b.nx (bal (Below.refl _ _) (.cells #[.int .i64 U, .slice (some ad4) (lm U) c4] 24))
  replace hB := bal hB (.cells #[.int .i64 U, .slice (some ad4) (lm U) c4] 24)
  clear hv4
  have h_j := hn_j
  clear hn_j
  go_wp2_with fail
  generalize w4.alloc (.cells #[.int .i64 U, .slice (some ad4) (lm U) c4] 24) = w4m at *
  generalize w4.heap.size = gw4 at *
  have xhU0 := (Below.refl (w4m).heap.size w4m).drew
  have xh_a0 := h_a.nx xhU0
  have xh_b0 := h_b.nx xhU0
  have xh_j0 := h_j.nx xhU0
  have xK0 := keep3 xh_a0 xh_b0 xh_j0
  clear p_a1 p_a2 p_a3 p_b1 p_b2 p_b3
  go_cut [64] (fun s64 wx => s64 = .bool false ∧ Below (w4m).heap.size w4m wx)
  case first =>
    go_region_held3 (fun w' => w'.cell? ⟨w.heap.size + 1, 0, none⟩ = some (.int .i64 W) ∧ w'.cell? ⟨w.heap.size + 1, 1, none⟩ = some (.slice (some ad) (lm W) c) ∧ w'.cell? ⟨w.heap.size + 1 + 1, 0, none⟩ = some (.int .i64 V) ∧ w'.cell? ⟨w.heap.size + 1 + 1, 1, none⟩ = some (.slice (some ad') (lm V) c') ∧ w'.cell? ⟨gw4, 0, none⟩ = some (.int .i64 U) ∧ w'.cell? ⟨gw4, 1, none⟩ = some (.slice (some ad4) (lm U) c4))
      (first | exact xK0 | exact xK1 | exact xK2 | exact xK3)
      (first | (go_at_call 19; ((with_reducible refine (C_text xh_j0.v HT3.out).mono ?_); rintro e xu1 ⟨rfl, xhu1⟩; have xh_a1 := xh_a0.nx xhu1; have xh_b1 := xh_b0.nx xhu1; have xh_j1 := xh_j0.nx xhu1; have xhU1 := bnx xhU0 xhu1; have xK1 := keep3 xh_a1 xh_b1 xh_j1)) | (go_at_call 19; ((with_reducible refine (C_text xh_a1.v HT1.out).mono ?_); rintro e xu2 ⟨rfl, xhu2⟩; have xh_a2 := xh_a1.nx xhu2; have xh_b2 := xh_b1.nx xhu2; have xh_j2 := xh_j1.nx xhu2; have xhU2 := bnx xhU1 xhu2; have xK2 := keep3 xh_a2 xh_b2 xh_j2)) | (go_at_call 19; ((with_reducible refine (C_text xh_b2.v HT2.out).mono ?_); rintro e xu3 ⟨rfl, xhu3⟩; have xh_a3 := xh_a2.nx xhu3; have xh_b3 := xh_b2.nx xhu3; have xh_j3 := xh_j2.nx xhu3; have xhU3 := bnx xhU2 xhu3; have xK3 := keep3 xh_a3 xh_b3 xh_j3)))
    all_goals (go_wp2_with fail; go_meet; exact ⟨by first | rfl | simp, xhU3⟩)
  obtain ⟨rfl, hU⟩ := hcut
  clear xh_a0 xh_b0 xh_j0 xK0 xhU0
  replace h_a := h_a.nx hU
  replace h_b := h_b.nx hU
  replace h_j := h_j.nx hU
  replace hB := bnx hB hU
  clear hU
  obtain ⟨p_a1, p_a2, p_a3⟩ := h_a.parts
  obtain ⟨p_b1, p_b2, p_b3⟩ := h_b.parts
  obtain ⟨p_j1, p_j2, p_j3⟩ := h_j.parts
  go_wp2_with fail
  refine (HE.out _ _ trivial).mono ?_
  rintro e w5 ⟨rfl, hb5⟩
  clear p_a1 p_a2 p_a3 p_b1 p_b2 p_b3 p_j1 p_j2 p_j3
  replace h_a := h_a.nx hb5
  replace h_b := h_b.nx hb5
  replace h_j := h_j.nx hb5
  replace hB := bnx hB hb5
  obtain ⟨p_a1, p_a2, p_a3⟩ := h_a.parts
  obtain ⟨p_b1, p_b2, p_b3⟩ := h_b.parts
  obtain ⟨p_j1, p_j2, p_j3⟩ := h_j.parts
  clear hb5
  replace h_a := h_a.nx (bal (Below.refl _ _) (.cells #[.int .i64 0, .slice none 0 0] 24))
  replace h_b := h_b.nx (bal (Below.refl _ _) (.cells #[.int .i64 0, .slice none 0 0] 24))
  replace h_j := h_j.nx (bal (Below.refl _ _) (.cells #[.int .i64 0, .slice none 0 0] 24))
  replace hB := bal hB (.cells #[.int .i64 0, .slice none 0 0] 24)
  rcases HC.out with e1 | ⟨e1, e2⟩ | ⟨t, t1, m1, hi, hq, hqc, e1, e2, e3⟩
  · clear HC
    go_wp2
    go_ret
    exact ⟨rfl, hB⟩
  · clear HC
    go_wp2
    go_ret
    exact ⟨rfl, hB⟩
  · have HQ := Lib.hid hq
    have HI := Lib.hid hi
    have HQc := Lib.hid hqc
    clear HC hq hqc hi
    go_wp2_with fail
    generalize w5.alloc (.cells #[.int .i64 0, .slice none 0 0] 24) = w5m at *
    refine (C_cuti h_a.v HI.out HQ.out.1 HQ.out.2.1 HQ.out.2.2.1 rfl).mono ?_
    rintro e w6 ⟨ad6, c6, rfl, hv6, hf6, hb6⟩
    clear p_a1 p_a2 p_a3 p_b1 p_b2 p_b3 p_j1 p_j2 p_j3
    replace h_a := h_a.nx hb6
    replace h_b := h_b.nx hb6
    replace h_j := h_j.nx hb6
    replace hB := bnx hB hb6
    obtain ⟨p_a1, p_a2, p_a3⟩ := h_a.parts
    obtain ⟨p_b1, p_b2, p_b3⟩ := h_b.parts
    obtain ⟨p_j1, p_j2, p_j3⟩ := h_j.parts
    clear hb6 hf6
    have hn_hi := Va.new hv6 (lm m1) (.int .i64 m1)
    replace h_a := h_a.nx (bal (Below.refl _ _) (.cells #[.int .i64 m1, .slice (some ad6) (lm m1) c6] 24))
    replace h_b := h_b.nx (bal (Below.refl _ _) (.cells #[.int .i64 m1, .slice (some ad6) (lm m1) c6] 24))
    replace h_j := h_j.nx (bal (Below.refl _ _) (.cells #[.int .i64 m1, .slice (some ad6) (lm m1) c6] 24))
    replace hB := bal hB (.cells #[.int .i64 m1, .slice (some ad6) (lm m1) c6] 24)
    clear hv6
    have h_hi := hn_hi
    clear hn_hi
    go_wp2_with fail
    generalize w6.alloc (.cells #[.int .i64 m1, .slice (some ad6) (lm m1) c6] 24) = w6m at *
    generalize w6.heap.size = gw6 at *
    refine (C_back h_a.v HQ.out.2.2.2.1 HQ.out.2.2.2.2.1 rfl).mono ?_
    rintro e w7 ⟨ad7, c7, rfl, hv7, hf7, hb7⟩
    clear p_a1 p_a2 p_a3 p_b1 p_b2 p_b3 p_j1 p_j2 p_j3
    replace h_a := h_a.nx hb7
    replace h_b := h_b.nx hb7
    replace h_j := h_j.nx hb7
    replace h_hi := h_hi.nx hb7
    replace hB := bnx hB hb7
    obtain ⟨p_a1, p_a2, p_a3⟩ := h_a.parts
    obtain ⟨p_b1, p_b2, p_b3⟩ := h_b.parts
    obtain ⟨p_j1, p_j2, p_j3⟩ := h_j.parts
    obtain ⟨p_hi1, p_hi2, p_hi3⟩ := h_hi.parts
    clear hb7 hf7
    have hn_lo := Va.new hv7 (lm t) (.int .i64 t)
    replace h_a := h_a.nx (bal (Below.refl _ _) (.cells #[.int .i64 t, .slice (some ad7) (lm t) c7] 24))
    replace h_b := h_b.nx (bal (Below.refl _ _) (.cells #[.int .i64 t, .slice (some ad7) (lm t) c7] 24))
    replace h_j := h_j.nx (bal (Below.refl _ _) (.cells #[.int .i64 t, .slice (some ad7) (lm t) c7] 24))
    replace h_hi := h_hi.nx (bal (Below.refl _ _) (.cells #[.int .i64 t, .slice (some ad7) (lm t) c7] 24))
    replace hB := bal hB (.cells #[.int .i64 t, .slice (some ad7) (lm t) c7] 24)
    clear hv7
    have h_lo := hn_lo
    clear hn_lo
    go_wp2_with fail
    generalize w7.alloc (.cells #[.int .i64 t, .slice (some ad7) (lm t) c7] 24) = w7m at *
    generalize w7.heap.size = gw7 at *
    have zhU0 := (Below.refl (w7m).heap.size w7m).drew
    have zh_a0 := h_a.nx zhU0
    have zh_hi0 := h_hi.nx zhU0
    have zh_lo0 := h_lo.nx zhU0
    have zK0 := keep3 zh_a0 zh_hi0 zh_lo0
    clear p_a1 p_a2 p_a3 p_b1 p_b2 p_b3 p_j1 p_j2 p_j3 p_hi1 p_hi2 p_hi3
    go_cut [2] (fun s2 wx => s2 = .bool true ∧ Below (w7m).heap.size w7m wx)
    case first =>
      go_region_held3 (fun w' => w'.cell? ⟨w.heap.size + 1, 0, none⟩ = some (.int .i64 W) ∧ w'.cell? ⟨w.heap.size + 1, 1, none⟩ = some (.slice (some ad) (lm W) c) ∧ w'.cell? ⟨gw6, 0, none⟩ = some (.int .i64 m1) ∧ w'.cell? ⟨gw6, 1, none⟩ = some (.slice (some ad6) (lm m1) c6) ∧ w'.cell? ⟨gw7, 0, none⟩ = some (.int .i64 t) ∧ w'.cell? ⟨gw7, 1, none⟩ = some (.slice (some ad7) (lm t) c7))
        (first | exact zK0 | exact zK1 | exact zK2)
        (first | (go_at_call 32; ((with_reducible refine (O_cat zh_hi0.v zh_lo0.v HQ.out.2.2.2.2.2 HW2.out (HQc.out)).mono ?_); rintro e zu1 ⟨zad1, zc1, rfl, zhv1, zhf1, zhu1⟩; have zh_a1 := zh_a0.nx zhu1; have zh_hi1 := zh_hi0.nx zhu1; have zh_lo1 := zh_lo0.nx zhu1; have zt1_1 := zhv1; have zhU1 := bnx zhU0 zhu1; have zK1 := keep3 zh_a1 zh_hi1 zh_lo1)) | (go_at_call 16; ((with_reducible refine (sam_yes zt1_1 zh_a1.v rfl).mono ?_); rintro e zu2 ⟨rfl, zhu2⟩; have zh_a2 := zh_a1.nx zhu2; have zh_hi2 := zh_hi1.nx zhu2; have zh_lo2 := zh_lo1.nx zhu2; have zt1_2 := zt1_1.nx zhu2; have zhU2 := bnx zhU1 zhu2; have zK2 := keep3 zh_a2 zh_hi2 zh_lo2)))
      all_goals (go_wp2_with fail; go_meet; exact ⟨by first | rfl | simp, zhU2⟩)
    obtain ⟨rfl, hU⟩ := hcut
    clear zh_a0 zh_hi0 zh_lo0 zK0 zhU0
    replace h_a := h_a.nx hU
    replace h_b := h_b.nx hU
    replace h_j := h_j.nx hU
    replace h_hi := h_hi.nx hU
    replace h_lo := h_lo.nx hU
    replace hB := bnx hB hU
    clear hU
    obtain ⟨p_a1, p_a2, p_a3⟩ := h_a.parts
    obtain ⟨p_b1, p_b2, p_b3⟩ := h_b.parts
    obtain ⟨p_j1, p_j2, p_j3⟩ := h_j.parts
    obtain ⟨p_hi1, p_hi2, p_hi3⟩ := h_hi.parts
    obtain ⟨p_lo1, p_lo2, p_lo3⟩ := h_lo.parts
    go_wp2
    go_ret
    exact ⟨rfl, hB⟩
end Go.Proofs.Ytnnoflohekmnbaa
