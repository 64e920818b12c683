/-
  VecShifts: its walk.
-/
import Derived.Test.YtnnoflohekmnbaaProg
import Derived.WalkKit
import Derived.WalkSpells
import Derived.WalkLawsBesides
import Derived.LoopN
import Derived.IntWalk
import Derived.Lib.Hide
import Derived.Laws.BitsAllLaws
import Derived.Laws.Externs
import Derived.BigQuiet
import Derived.BigRegion
import Derived.Deep.QuietTactic
import Derived.Deep.RegionWith
import Derived.Deep.RegionHeld3
import Derived.StillTailTactics
import Derived.RegionTactic
import Derived.ChangeAlike
import Derived.Test.YtnnoflohekmnbaaH1
import Derived.Test.YtnnoflohekmnbaaE5
import Derived.Test.YtnnoflohekmnbaaF1
import Derived.Test.YtnnoflohekmnbaaX1
set_option linter.unusedVariables false
namespace Go.Proofs.Ytnnoflohekmnbaa
open Go.RowKit
/-- Where the first loop stands: k is j. -/
structure KW (wm wr : World) (g W j : Nat) : Prop where
  eg : g = wm.heap.size
  bel : Below wm.heap.size wm wr
  sz : wm.heap.size + 1 ≤ wr.heap.size
  k : ∃ adk ck, Va wr g adk ck (lm W) W j (.int .i64 W)
theorem KW.store {wm wr w6 : World} {g W j i : Nat} {ad6 : Addr} {c6 : Nat} (h : KW wm wr g W j) (hb : Below wr.heap.size wr w6) (hv : Vc w6 w6.heap.size ad6 c6 W i) (hf : wr.heap.size ≤ ad6.block) :
    KW wm (((w6.setCell ⟨g, 0, none⟩ (.int .i64 W)).setCell ⟨g, 1, none⟩ (.slice (some ad6) (lm W) c6)).alloc (.cells #[.int .i64 W, .slice (some ad6) (lm W) c6] 24)) g W i := by
  have hg := h.eg
  subst hg
  have hs := h.sz
  have hs6 := hb.size
  obtain ⟨adk, ck, hk⟩ := h.k
  have hk6 := hk.nx hb
  have hb6 := ((bnx h.bel hb).setCell (p := ⟨wm.heap.size, 0, none⟩) (by simp) (.int .i64 W)).setCell (p := ⟨wm.heap.size, 1, none⟩) (by simp) (.slice (some ad6) (lm W) c6)
  have hv6 := hv.stored (g := wm.heap.size) (by omega) (.int .i64 W) (.slice (some ad6) (lm W) c6)
  have V6 : Va ((w6.setCell ⟨wm.heap.size, 0, none⟩ (.int .i64 W)).setCell ⟨wm.heap.size, 1, none⟩ (.slice (some ad6) (lm W) c6)) wm.heap.size ad6 c6 (lm W) W i (.int .i64 W) := ⟨hk6.d.store _ _, by simpa using hv6⟩
  exact ⟨rfl, bal hb6 _, by simp; omega, ad6, c6, V6.nx (bal (Below.refl _ _) _)⟩
theorem min_run2 (a b : Int) (E : Int) (h : (if b < a then b else a) = E) (ts : Array TypeId) (t : TypeId) (w : World) : (Builtin.min_ ts t #[.int .i64 a, .int .i64 b]).run Try.prog w = .ok (.int .i64 E) w := by
  rw [run_min_int2, h]
theorem keep_four {wr : World} {ga ca ka Wa Na : Nat} {ada : Addr} {xa : Value} (ha : Va wr ga ada ca ka Wa Na xa) {gb cb kb Wb Nb : Nat} {adb : Addr} {xb : Value} (hb : Va wr gb adb cb kb Wb Nb xb) {gc cc kc Wc Nc : Nat} {adc : Addr} {xc : Value} (hc : Va wr gc adc cc kc Wc Nc xc) {gd cd kd Wd Nd : Nat} {add : Addr} {xd : Value} (hd : Va wr gd add cd kd Wd Nd xd) : wr.cell? ⟨ga, 0, none⟩ = some xa ∧ wr.cell? ⟨ga, 1, none⟩ = some (.slice (some ada) ka ca) ∧ wr.cell? ⟨gb, 0, none⟩ = some xb ∧ wr.cell? ⟨gb, 1, none⟩ = some (.slice (some adb) kb cb) ∧ wr.cell? ⟨gc, 0, none⟩ = some xc ∧ wr.cell? ⟨gc, 1, none⟩ = some (.slice (some adc) kc cc) ∧ wr.cell? ⟨gd, 0, none⟩ = some xd ∧ wr.cell? ⟨gd, 1, none⟩ = some (.slice (some add) kd cd) := ⟨ha.parts.1, ha.parts.2.1, hb.parts.1, hb.parts.2.1, hc.parts.1, hc.parts.2.1, hd.parts.1, hd.parts.2.1⟩
theorem keep_three {wr : World} {ga ca ka Wa Na : Nat} {ada : Addr} {xa : Value} (ha : Va wr ga ada ca ka Wa Na xa) {gb cb kb Wb Nb : Nat} {adb : Addr} {xb : Value} (hb : Va wr gb adb cb kb Wb Nb xb) {gc cc kc Wc Nc : Nat} {adc : Addr} {xc : Value} (hc : Va wr gc adc cc kc Wc Nc xc) : wr.cell? ⟨ga, 0, none⟩ = some xa ∧ wr.cell? ⟨ga, 1, none⟩ = some (.slice (some ada) ka ca) ∧ wr.cell? ⟨gb, 0, none⟩ = some xb ∧ wr.cell? ⟨gb, 1, none⟩ = some (.slice (some adb) kb cb) ∧ wr.cell? ⟨gc, 0, none⟩ = some xc ∧ wr.cell? ⟨gc, 1, none⟩ = some (.slice (some adc) kc cc) := ⟨ha.parts.1, ha.parts.2.1, hb.parts.1, hb.parts.2.1, hc.parts.1, hc.parts.2.1⟩
set_option maxRecDepth 100000 in
set_option maxHeartbeats 16000000 in
theorem shifts_main {w : World} {ad : Addr} {c W N m K : Nat} (h : Vc w w.heap.size ad c W N) (h2 : 2 ≤ W) (hm : m ≤ 255) (hK : m % W = K) : Calls Try.prog 8 #[.agg #[.int .i64 W, .slice (some ad) (lm W) c], .int .u8 (m : Int)] w (RetV w (.bool true)) := by
  have hW := h.w2
  have HN := Lib.hid h.n
  have d1 : decide ((W : Int) < 2) = false := decide_eq_false (by omega)
  have d1' : decide (W < 2) = false := decide_eq_false (by omega)
  have hKlt : K < W := by rw [← hK]; exact Nat.mod_lt _ (by omega)
  have hmod : Int.tmod (m : Int) (W : Int) = (K : Int) := by
    rw [Int.tmod_eq_emod_of_nonneg (by omega), ← hK]; rfl
  have hz : ((W : Int) == 0) = false := by rw [beq_eq_false_iff_ne]; omega
  clear hK
  have hB := bal (Below.refl w.heap.size w) (.cells #[.int .i64 W, .slice (some ad) (lm W) c] 24)
  have h_a := Va.new h (lm W) (.int .i64 W)
  clear h
  go_enter Try.func8, Try.ntmps8
  go_wp2_with fail
  generalize w.alloc (.cells #[.int .i64 W, .slice (some ad) (lm W) c] 24) = w0 at *
  go_wp2_with fail
  refine (shown_any _).mono ?_
  rintro e w1 ⟨rfl, hb1⟩
  replace h_a := h_a.nx hb1
  replace hB := bnx hB hb1
  obtain ⟨p_a1, p_a2, p_a3⟩ := h_a.parts
  clear hb1
  go_wp2_with fail
  refine (refRight_vc h_a.v).mono ?_
  rintro e w2 ⟨rfl, hb2⟩
  clear p_a1 p_a2 p_a3
  replace h_a := h_a.nx hb2
  replace hB := bnx hB hb2
  obtain ⟨p_a1, p_a2, p_a3⟩ := h_a.parts
  clear hb2
  go_wp2_with fail
  refine (O_zero h_a.v).mono ?_
  rintro e w3 ⟨ad3, c3, rfl, hv3, hf3, hb3⟩
  clear p_a1 p_a2 p_a3
  replace h_a := h_a.nx hb3
  replace hB := bnx hB hb3
  obtain ⟨p_a1, p_a2, p_a3⟩ := h_a.parts
  clear hb3 hf3
  have hn_zero := Va.new hv3 (lm W) (.int .i64 W)
  replace h_a := h_a.nx (bal (Below.refl _ _) (.cells #[.int .i64 W, .slice (some ad3) (lm W) c3] 24))
  replace hB := bal hB (.cells #[.int .i64 W, .slice (some ad3) (lm W) c3] 24)
  clear hv3
  have h_zero := hn_zero
  clear hn_zero
  go_wp2_with fail
  generalize w3.alloc (.cells #[.int .i64 W, .slice (some ad3) (lm W) c3] 24) = w3m at *
  generalize w3.heap.size = gw3 at *
  refine (O_next (K := 1) h_zero.v (by omega) (by omega)).mono ?_
  rintro e w4 ⟨ad4, c4, rfl, hv4, hf4, hb4⟩
  clear p_a1 p_a2 p_a3
  replace h_a := h_a.nx hb4
  replace h_zero := h_zero.nx hb4
  replace hB := bnx hB hb4
  obtain ⟨p_a1, p_a2, p_a3⟩ := h_a.parts
  obtain ⟨p_zero1, p_zero2, p_zero3⟩ := h_zero.parts
  clear hb4 hf4
  have hn_one := Va.new hv4 (lm W) (.int .i64 W)
  replace h_a := h_a.nx (bal (Below.refl _ _) (.cells #[.int .i64 W, .slice (some ad4) (lm W) c4] 24))
  replace h_zero := h_zero.nx (bal (Below.refl _ _) (.cells #[.int .i64 W, .slice (some ad4) (lm W) c4] 24))
  replace hB := bal hB (.cells #[.int .i64 W, .slice (some ad4) (lm W) c4] 24)
  clear hv4
  have h_one := hn_one
  clear hn_one
  go_wp2
  have HZ4 : Hid ((w4.alloc (.cells #[.int .i64 W, .slice (some ad4) (lm W) c4] 24)).heap.size = w4.heap.size + 1) := by show _ = _; simp
  generalize w4.alloc (.cells #[.int .i64 W, .slice (some ad4) (lm W) c4] 24) = w4m at *
  generalize w4.heap.size = gw4 at *
  have V0 := Va.new h_zero.v (lm W) (.int .i64 W)
  rw [HZ4.out] at V0
  have HKW : Hid (KW w4m (w4m.alloc (.cells #[.int .i64 W, .slice (some ad3) (lm W) c3] 24)) (gw4 + 1) W 0) := Lib.hid ⟨HZ4.out.symm, bal (Below.refl _ _) _, by simp, _, _, V0⟩
  clear V0
  clear p_a1 p_a2 p_a3 p_zero1 p_zero2 p_zero3
  go_loopw [10] (fun t wr => ∃ j : Nat, j ≤ K ∧ t = .int .i64 j ∧ KW w4m wr (gw4 + 1) W j) (fun t _ => K - (intOf t).toNat)
  case atStart => exact ⟨0, Nat.zero_le _, rfl, HKW.out⟩
  case round =>
    obtain ⟨j, hj, rfl, L⟩ := hrel
    obtain ⟨adk, ck, h_k⟩ := L.k
    replace h_a := h_a.nx L.bel
    replace h_zero := h_zero.nx L.bel
    replace h_one := h_one.nx L.bel
    replace hB := bnx hB L.bel
    obtain ⟨p_a1, p_a2, p_a3⟩ := h_a.parts
    obtain ⟨p_zero1, p_zero2, p_zero3⟩ := h_zero.parts
    obtain ⟨p_one1, p_one2, p_one3⟩ := h_one.parts
    obtain ⟨p_k1, p_k2, p_k3⟩ := h_k.parts
    obtain ⟨_, _, pf1, pf2⟩ := h_k.d
    by_cases hlt : j < K
    · have HC := Lib.hid (O_next h_k.v hlt hKlt)
      have HLL := Lib.hid L
      clear L h_k
      go_wp2_with fail
      refine HC.out.mono ?_
      rintro e w6 ⟨ad6, c6, rfl, hv6, hf6, hb6⟩
      have HS := Lib.hid (HLL.out.store hb6 hv6 hf6)
      have g1 := (hb6.cell (p := ⟨gw4 + 1, 0, none⟩) p_k3).trans p_k1
      have g2 := (hb6.cell (p := ⟨gw4 + 1, 1, none⟩) p_k3).trans p_k2
      have g3 := (hb6.frozen (p := ⟨gw4 + 1, 0, none⟩) p_k3).trans pf1
      have g4 := (hb6.frozen (p := ⟨gw4 + 1, 1, none⟩) p_k3).trans pf2
      have g5 : gw4 + 1 < w6.heap.size := Nat.lt_of_lt_of_le p_k3 hb6.size
      clear p_a1 p_a2 p_a3 p_zero1 p_zero2 p_zero3 p_one1 p_one2 p_one3 p_k1 p_k2 p_k3 pf1 pf2 HLL HC hv6 hf6 hb6
      go_wp2
      go_roundw
      case rel => exact ⟨j + 1, by omega, by go_num, HS.out⟩
      case measure => simp [intOf]; omega
    · obtain rfl : j = K := by omega
      clear pf1 pf2 L hlt hj
      go_wp2_with fail
      refine (O_sll h_a.v h_k.v).mono ?_
      rintro e w5 ⟨ad5, c5, rfl, hv5, hf5, hb5⟩
      clear p_a1 p_a2 p_a3 p_zero1 p_zero2 p_zero3 p_one1 p_one2 p_one3 p_k1 p_k2 p_k3
      replace h_a := h_a.nx hb5
      replace h_zero := h_zero.nx hb5
      replace h_one := h_one.nx hb5
      replace h_k := h_k.nx hb5
      replace hB := bnx hB hb5
      obtain ⟨p_a1, p_a2, p_a3⟩ := h_a.parts
      obtain ⟨p_zero1, p_zero2, p_zero3⟩ := h_zero.parts
      obtain ⟨p_one1, p_one2, p_one3⟩ := h_one.parts
      obtain ⟨p_k1, p_k2, p_k3⟩ := h_k.parts
      clear hb5 hf5
      have hn_l := Va.new hv5 (lm W) (.int .i64 W)
      replace h_a := h_a.nx (bal (Below.refl _ _) (.cells #[.int .i64 W, .slice (some ad5) (lm W) c5] 24))
      replace h_zero := h_zero.nx (bal (Below.refl _ _) (.cells #[.int .i64 W, .slice (some ad5) (lm W) c5] 24))
      replace h_one := h_one.nx (bal (Below.refl _ _) (.cells #[.int .i64 W, .slice (some ad5) (lm W) c5] 24))
      replace h_k := h_k.nx (bal (Below.refl _ _) (.cells #[.int .i64 W, .slice (some ad5) (lm W) c5] 24))
      replace hB := bal hB (.cells #[.int .i64 W, .slice (some ad5) (lm W) c5] 24)
      clear hv5
      have h_l := hn_l
      clear hn_l
      go_wp2_with fail
      generalize w5.alloc (.cells #[.int .i64 W, .slice (some ad5) (lm W) c5] 24) = w5m at *
      generalize w5.heap.size = gw5 at *
      refine (O_srl h_a.v h_k.v).mono ?_
      rintro e w6 ⟨ad6, c6, rfl, hv6, hf6, hb6⟩
      clear p_a1 p_a2 p_a3 p_zero1 p_zero2 p_zero3 p_one1 p_one2 p_one3 p_k1 p_k2 p_k3
      replace h_a := h_a.nx hb6
      replace h_zero := h_zero.nx hb6
      replace h_one := h_one.nx hb6
      replace h_k := h_k.nx hb6
      replace h_l := h_l.nx hb6
      replace hB := bnx hB hb6
      obtain ⟨p_a1, p_a2, p_a3⟩ := h_a.parts
      obtain ⟨p_zero1, p_zero2, p_zero3⟩ := h_zero.parts
      obtain ⟨p_one1, p_one2, p_one3⟩ := h_one.parts
      obtain ⟨p_k1, p_k2, p_k3⟩ := h_k.parts
      obtain ⟨p_l1, p_l2, p_l3⟩ := h_l.parts
      clear hb6 hf6
      have hn_r := Va.new hv6 (lm W) (.int .i64 W)
      replace h_a := h_a.nx (bal (Below.refl _ _) (.cells #[.int .i64 W, .slice (some ad6) (lm W) c6] 24))
      replace h_zero := h_zero.nx (bal (Below.refl _ _) (.cells #[.int .i64 W, .slice (some ad6) (lm W) c6] 24))
      replace h_one := h_one.nx (bal (Below.refl _ _) (.cells #[.int .i64 W, .slice (some ad6) (lm W) c6] 24))
      replace h_k := h_k.nx (bal (Below.refl _ _) (.cells #[.int .i64 W, .slice (some ad6) (lm W) c6] 24))
      replace h_l := h_l.nx (bal (Below.refl _ _) (.cells #[.int .i64 W, .slice (some ad6) (lm W) c6] 24))
      replace hB := bal hB (.cells #[.int .i64 W, .slice (some ad6) (lm W) c6] 24)
      clear hv6
      have h_r := hn_r
      clear hn_r
      go_wp2_with fail
      generalize w6.alloc (.cells #[.int .i64 W, .slice (some ad6) (lm W) c6] 24) = w6m at *
      generalize w6.heap.size = gw6 at *
      refine (O_sra h_a.v h_k.v).mono ?_
      rintro e w7 ⟨ad7, c7, rfl, hv7, hf7, hb7⟩
      clear p_a1 p_a2 p_a3 p_zero1 p_zero2 p_zero3 p_one1 p_one2 p_one3 p_k1 p_k2 p_k3 p_l1 p_l2 p_l3
      replace h_a := h_a.nx hb7
      replace h_zero := h_zero.nx hb7
      replace h_one := h_one.nx hb7
      replace h_k := h_k.nx hb7
      replace h_l := h_l.nx hb7
      replace h_r := h_r.nx hb7
      replace hB := bnx hB hb7
      obtain ⟨p_a1, p_a2, p_a3⟩ := h_a.parts
      obtain ⟨p_zero1, p_zero2, p_zero3⟩ := h_zero.parts
      obtain ⟨p_one1, p_one2, p_one3⟩ := h_one.parts
      obtain ⟨p_k1, p_k2, p_k3⟩ := h_k.parts
      obtain ⟨p_l1, p_l2, p_l3⟩ := h_l.parts
      obtain ⟨p_r1, p_r2, p_r3⟩ := h_r.parts
      clear hb7 hf7
      have hn_s := Va.new hv7 (lm W) (.int .i64 W)
      replace h_a := h_a.nx (bal (Below.refl _ _) (.cells #[.int .i64 W, .slice (some ad7) (lm W) c7] 24))
      replace h_zero := h_zero.nx (bal (Below.refl _ _) (.cells #[.int .i64 W, .slice (some ad7) (lm W) c7] 24))
      replace h_one := h_one.nx (bal (Below.refl _ _) (.cells #[.int .i64 W, .slice (some ad7) (lm W) c7] 24))
      replace h_k := h_k.nx (bal (Below.refl _ _) (.cells #[.int .i64 W, .slice (some ad7) (lm W) c7] 24))
      replace h_l := h_l.nx (bal (Below.refl _ _) (.cells #[.int .i64 W, .slice (some ad7) (lm W) c7] 24))
      replace h_r := h_r.nx (bal (Below.refl _ _) (.cells #[.int .i64 W, .slice (some ad7) (lm W) c7] 24))
      replace hB := bal hB (.cells #[.int .i64 W, .slice (some ad7) (lm W) c7] 24)
      clear hv7
      have h_s := hn_s
      clear hn_s
      go_wp2
      generalize w7.alloc (.cells #[.int .i64 W, .slice (some ad7) (lm W) c7] 24) = w7m at *
      generalize w7.heap.size = gw7 at *
      clear p_a1 p_a2 p_a3 p_zero1 p_zero2 p_zero3 p_one1 p_one2 p_one3 p_k1 p_k2 p_k3 p_l1 p_l2 p_l3 p_r1 p_r2 p_r3
      go_loopw [17] (fun t wr => ∃ i : Nat, i ≤ W ∧ t = .int .i64 i ∧ Below w7m.heap.size w7m wr) (fun t _ => W - (intOf t).toNat)
      case atStart => exact ⟨0, Nat.zero_le _, rfl, Below.refl _ _⟩
      case round =>
        obtain ⟨i, hi, rfl, hb⟩ := hrel
        replace h_a := h_a.nx hb
        replace h_zero := h_zero.nx hb
        replace h_one := h_one.nx hb
        replace h_k := h_k.nx hb
        replace h_l := h_l.nx hb
        replace h_r := h_r.nx hb
        replace h_s := h_s.nx hb
        replace hB := bnx hB hb
        obtain ⟨p_a1, p_a2, p_a3⟩ := h_a.parts
        obtain ⟨p_zero1, p_zero2, p_zero3⟩ := h_zero.parts
        obtain ⟨p_one1, p_one2, p_one3⟩ := h_one.parts
        obtain ⟨p_k1, p_k2, p_k3⟩ := h_k.parts
        obtain ⟨p_l1, p_l2, p_l3⟩ := h_l.parts
        obtain ⟨p_r1, p_r2, p_r3⟩ := h_r.parts
        obtain ⟨p_s1, p_s2, p_s3⟩ := h_s.parts
        by_cases hlt : i < W
        · obtain ⟨E, hE⟩ : ∃ E : Int, (if (W : Int) - 1 < (i : Int) + (j : Int) then (W : Int) - 1 else (i : Int) + (j : Int)) = E := ⟨_, rfl⟩
          have hmn := min_run2 ((i : Int) + (j : Int)) ((W : Int) - 1) E hE
          obtain ⟨x2, HR⟩ : ∃ x2, Hid (tb (f_srl W N j) (i : Int) = x2) := ⟨_, rfl⟩
          have HR' : Hid (tb N ((i : Int) + (j : Int)) = x2) := (tb_srl hW hKlt hlt).symm.trans HR.out
          obtain ⟨x3, HS⟩ : ∃ x3, Hid (tb (f_sra W N j) (i : Int) = x3) := ⟨_, rfl⟩
          have HS' : Hid (tb N E = x3) := (tb_sra hW HN.out hKlt hlt E (by rw [← hE]; split <;> split <;> omega)).symm.trans HS.out
          have HE : Hid ((if (W : Int) - 1 < (i : Int) + (j : Int) then (W : Int) - 1 else (i : Int) + (j : Int)) = E) := hE
          have HL0 := Lib.hid (tb_sll (N := N) hW hKlt hlt)
          have q2 : (x2 != x2) = false := by simp
          have q3 : (x3 != x3) = false := by simp
          clear hE
          by_cases hji : j ≤ i
          · obtain ⟨x1, HL⟩ : ∃ x1, Hid (tb (f_sll W N j) (i : Int) = x1) := ⟨_, rfl⟩
            have HL' : Hid (tb N ((i : Int) - (j : Int)) = x1) := by
              have := HL0.out; rw [decide_eq_true hji, Bool.true_and] at this; exact this.symm.trans HL.out
            have q1 : (x1 != x1) = false := by simp
            clear HL0
            go_wp2_with fail
            have hwr1 : IntKind.i64.wrap ((i : Int) + (j : Int)) = (i : Int) + (j : Int) := IntWalk.i64_in _ (by omega)
            have hwr2 : IntKind.i64.wrap ((W : Int) - 1) = (W : Int) - 1 := IntWalk.i64_in _ (by omega)
            have hwr3 : IntKind.i64.wrap ((i : Int) - (j : Int)) = (i : Int) - (j : Int) := IntWalk.i64_in _ (by omega)
            have zhU0 := (Below.refl (wr).heap.size wr).drew
            have zh_a0 := h_a.nx zhU0
            have zh_l0 := h_l.nx zhU0
            have zh_r0 := h_r.nx zhU0
            have zh_s0 := h_s.nx zhU0
            have zK0 := keep_four zh_a0 zh_l0 zh_r0 zh_s0
            clear p_a1 p_a2 p_a3 p_zero1 p_zero2 p_zero3 p_one1 p_one2 p_one3 p_k1 p_k2 p_k3 p_l1 p_l2 p_l3 p_r1 p_r2 p_r3 p_s1 p_s2 p_s3
            refine wp_region_noPanic ?_
            refine wp_region_held_drew (S := fun w' => w'.cell? ⟨w.heap.size, 0, none⟩ = some (.int .i64 W) ∧ w'.cell? ⟨w.heap.size, 1, none⟩ = some (.slice (some ad) (lm W) c) ∧ w'.cell? ⟨gw5, 0, none⟩ = some (.int .i64 W) ∧ w'.cell? ⟨gw5, 1, none⟩ = some (.slice (some ad5) (lm W) c5) ∧ w'.cell? ⟨gw6, 0, none⟩ = some (.int .i64 W) ∧ w'.cell? ⟨gw6, 1, none⟩ = some (.slice (some ad6) (lm W) c6) ∧ w'.cell? ⟨gw7, 0, none⟩ = some (.int .i64 W) ∧ w'.cell? ⟨gw7, 1, none⟩ = some (.slice (some ad7) (lm W) c7)) (by kernel_rfl) ?_ (fun hHeld => ?_)
            · exact zK0
            refine wpAnyH_take (i := 0) (oi := { dst := some 72, op := Op.load 24 (Operand.tmp 13), type := 24, pos := "more.go:45", after := #[], guard := none }) (v := ?_) rfl (by kernel_rfl) (by kernel_rfl) (by kernel_rfl) (fun _ _ _ h => h) (Or.inl ⟨by rfl, ?_⟩) (by assumption) ?_
            rotate_left
            · intro w hSw
              (try dsimp only at hSw)
              go_simp
              (try simp only [hwr1, hwr2, hwr3])
              try with_reducible rfl
            try simp only [Act.put, List.setIfInBounds_toArray, List.set_cons_zero, List.set_cons_succ]
            refine wpAnyH_take (i := 1) (oi := { dst := some 73, op := Op.move (Operand.tmp 17), type := 3, pos := "more.go:45", after := #[], guard := none }) (v := ?_) rfl (by kernel_rfl) (by kernel_rfl) (by kernel_rfl) (fun _ _ _ h => h) (Or.inl ⟨by rfl, ?_⟩) (by assumption) ?_
            rotate_left
            · intro w hSw
              (try dsimp only at hSw)
              go_simp
              (try simp only [hwr1, hwr2, hwr3])
              try with_reducible rfl
            try simp only [Act.put, List.setIfInBounds_toArray, List.set_cons_zero, List.set_cons_succ]
            refine wpAnyH_take (i := 3) (oi := { dst := some 75, op := Op.move (Operand.tmp 17), type := 3, pos := "more.go:45", after := #[], guard := none }) (v := ?_) rfl (by kernel_rfl) (by kernel_rfl) (by kernel_rfl) (fun _ _ _ h => h) (Or.inl ⟨by rfl, ?_⟩) (by assumption) ?_
            rotate_left
            · intro w hSw
              (try dsimp only at hSw)
              go_simp
              (try simp only [hwr1, hwr2, hwr3])
              try with_reducible rfl
            try simp only [Act.put, List.setIfInBounds_toArray, List.set_cons_zero, List.set_cons_succ]
            refine wpAnyH_take (i := 4) (oi := { dst := some 76, op := Op.move (Operand.tmp 16), type := 3, pos := "more.go:45", after := #[], guard := none }) (v := ?_) rfl (by kernel_rfl) (by kernel_rfl) (by kernel_rfl) (fun _ _ _ h => h) (Or.inl ⟨by rfl, ?_⟩) (by assumption) ?_
            rotate_left
            · intro w hSw
              (try dsimp only at hSw)
              go_simp
              (try simp only [hwr1, hwr2, hwr3])
              try with_reducible rfl
            try simp only [Act.put, List.setIfInBounds_toArray, List.set_cons_zero, List.set_cons_succ]
            refine wpAnyH_take (i := 5) (oi := { dst := some 77, op := Op.binOp BinOp.geq 3 (Operand.tmp 75) (Operand.tmp 76) 3, type := 4, pos := "more.go:45", after := #[{ on := 3, ground := Ground.data }, { on := 4, ground := Ground.data }], guard := none }) (v := ?_) rfl (by kernel_rfl) (by kernel_rfl) (by kernel_rfl) (fun _ _ _ h => h) (Or.inl ⟨by rfl, ?_⟩) (by assumption) ?_
            rotate_left
            · intro w hSw
              (try dsimp only at hSw)
              go_simp
              (try simp only [hwr1, hwr2, hwr3])
              try with_reducible rfl
            try simp only [Act.put, List.setIfInBounds_toArray, List.set_cons_zero, List.set_cons_succ]
            refine wpAnyH_ready (rs := [2]) (by kernel_rfl) (by simp) ?_
            refine AllReadyH.cons (o := { dst := some 74, op := Op.call { callee := Callee.value (Operand.func 17), args := #[Operand.tmp 72, Operand.tmp 73], argTypes := #[24, 3] }, type := 4, pos := "more.go:45", after := #[{ on := 0, ground := Ground.data }, { on := 1, ground := Ground.data }], guard := none }) rfl (fun K hK => ?_) AllReadyH.nil
            go_simp
            with_reducible refine (Bit_b zh_l0.v HL.out).mono ?_
            rintro e zu1 ⟨rfl, zhu1⟩
            have zh_a1 := zh_a0.nx zhu1
            have zh_l1 := zh_l0.nx zhu1
            have zh_r1 := zh_r0.nx zhu1
            have zh_s1 := zh_s0.nx zhu1
            have zhU1 := bnx zhU0 zhu1
            have zK1 := keep_four zh_a1 zh_l1 zh_r1 zh_s1
            go_wp2_with fail
            refine hK.out _ _ ?_ (fun hHeld => ?_)
            · exact zK1
            clear hK K
            try simp only [Act.put, List.setIfInBounds_toArray, List.set_cons_zero, List.set_cons_succ]
            refine wpAnyH_take (i := 6) (oi := { dst := some 78, op := Op.move (Operand.tmp 77), type := 4, pos := "more.go:45", after := #[{ on := 5, ground := Ground.data }, { on := 2, ground := Ground.chain }], guard := none }) (v := ?_) rfl (by kernel_rfl) (by kernel_rfl) (by kernel_rfl) (fun _ _ _ h => h) (Or.inl ⟨by rfl, ?_⟩) (by assumption) ?_
            rotate_left
            · intro w hSw
              (try dsimp only at hSw)
              go_simp
              (try simp only [hwr1, hwr2, hwr3])
              try with_reducible rfl
            try simp only [Act.put, List.setIfInBounds_toArray, List.set_cons_zero, List.set_cons_succ]
            refine wpAnyH_take (i := 7) (oi := { dst := some 79, op := Op.load 24 (Operand.tmp 2), type := 24, pos := "more.go:45", after := #[{ on := 6, ground := Ground.guard }], guard := some (6, true) }) (v := ?_) rfl (by kernel_rfl) (by kernel_rfl) (by kernel_rfl) (fun _ _ _ h => h) (Or.inl ⟨by rfl, ?_⟩) (by assumption) ?_
            rotate_left
            · intro w hSw
              (try dsimp only at hSw)
              go_simp
              (try simp only [hwr1, hwr2, hwr3])
              try with_reducible rfl
            try simp only [Act.put, List.setIfInBounds_toArray, List.set_cons_zero, List.set_cons_succ]
            refine wpAnyH_take (i := 8) (oi := { dst := some 80, op := Op.move (Operand.tmp 17), type := 3, pos := "more.go:45", after := #[{ on := 6, ground := Ground.guard }], guard := some (6, true) }) (v := ?_) rfl (by kernel_rfl) (by kernel_rfl) (by kernel_rfl) (fun _ _ _ h => h) (Or.inl ⟨by rfl, ?_⟩) (by assumption) ?_
            rotate_left
            · intro w hSw
              (try dsimp only at hSw)
              go_simp
              (try simp only [hwr1, hwr2, hwr3])
              try with_reducible rfl
            try simp only [Act.put, List.setIfInBounds_toArray, List.set_cons_zero, List.set_cons_succ]
            refine wpAnyH_take (i := 9) (oi := { dst := some 81, op := Op.move (Operand.tmp 16), type := 3, pos := "more.go:45", after := #[{ on := 6, ground := Ground.guard }], guard := some (6, true) }) (v := ?_) rfl (by kernel_rfl) (by kernel_rfl) (by kernel_rfl) (fun _ _ _ h => h) (Or.inl ⟨by rfl, ?_⟩) (by assumption) ?_
            rotate_left
            · intro w hSw
              (try dsimp only at hSw)
              go_simp
              (try simp only [hwr1, hwr2, hwr3])
              try with_reducible rfl
            try simp only [Act.put, List.setIfInBounds_toArray, List.set_cons_zero, List.set_cons_succ]
            refine wpAnyH_take (i := 10) (oi := { dst := some 82, op := Op.binOp BinOp.sub 3 (Operand.tmp 80) (Operand.tmp 81) 3, type := 3, pos := "more.go:45", after := #[{ on := 8, ground := Ground.data }, { on := 9, ground := Ground.data }, { on := 6, ground := Ground.guard }], guard := some (6, true) }) (v := ?_) rfl (by kernel_rfl) (by kernel_rfl) (by kernel_rfl) (fun _ _ _ h => h) (Or.inl ⟨by rfl, ?_⟩) (by assumption) ?_
            rotate_left
            · intro w hSw
              (try dsimp only at hSw)
              go_simp
              (try simp only [hwr1, hwr2, hwr3])
              try with_reducible rfl
            try simp only [Act.put, List.setIfInBounds_toArray, List.set_cons_zero, List.set_cons_succ]
            refine wpAnyH_ready (rs := [11]) (by kernel_rfl) (by simp) ?_
            refine AllReadyH.cons (o := { dst := some 83, op := Op.call { callee := Callee.value (Operand.func 17), args := #[Operand.tmp 79, Operand.tmp 82], argTypes := #[24, 3] }, type := 4, pos := "more.go:45", after := #[{ on := 7, ground := Ground.data }, { on := 10, ground := Ground.data }, { on := 6, ground := Ground.chain }, { on := 6, ground := Ground.guard }], guard := some (6, true) }) rfl (fun K hK => ?_) AllReadyH.nil
            go_simp
            with_reducible refine (Bit_b zh_a1.v HL'.out).mono ?_
            rintro e zu2 ⟨rfl, zhu2⟩
            have zh_a2 := zh_a1.nx zhu2
            have zh_l2 := zh_l1.nx zhu2
            have zh_r2 := zh_r1.nx zhu2
            have zh_s2 := zh_s1.nx zhu2
            have zhU2 := bnx zhU1 zhu2
            have zK2 := keep_four zh_a2 zh_l2 zh_r2 zh_s2
            go_wp2_with fail
            refine hK.out _ _ ?_ (fun hHeld => ?_)
            · exact zK2
            clear hK K
            try simp only [Act.put, List.setIfInBounds_toArray, List.set_cons_zero, List.set_cons_succ]
            refine wpAnyH_take (i := 12) (oi := { dst := some 84, op := Op.pick (Operand.tmp 78) (Operand.tmp 83) (Operand.const (Value.bool false)), type := 4, pos := "more.go:45", after := #[{ on := 6, ground := Ground.data }, { on := 11, ground := Ground.data }], guard := none }) (v := ?_) rfl (by kernel_rfl) (by kernel_rfl) (by kernel_rfl) (fun _ _ _ h => h) (Or.inl ⟨by rfl, ?_⟩) (by assumption) ?_
            rotate_left
            · intro w hSw
              (try dsimp only at hSw)
              go_simp
              (try simp only [hwr1, hwr2, hwr3])
              try with_reducible rfl
            try simp only [Act.put, List.setIfInBounds_toArray, List.set_cons_zero, List.set_cons_succ]
            refine wpAnyH_take (i := 13) (oi := { dst := some 85, op := Op.binOp BinOp.neq 4 (Operand.tmp 74) (Operand.tmp 84) 4, type := 4, pos := "more.go:45", after := #[{ on := 2, ground := Ground.data }, { on := 12, ground := Ground.data }], guard := none }) (v := ?_) rfl (by kernel_rfl) (by kernel_rfl) (by kernel_rfl) (fun _ _ _ h => h) (Or.inl ⟨by rfl, ?_⟩) (by assumption) ?_
            rotate_left
            · intro w hSw
              (try dsimp only at hSw)
              go_simp
              (try simp only [hwr1, hwr2, hwr3])
              try with_reducible rfl
            try simp only [Act.put, List.setIfInBounds_toArray, List.set_cons_zero, List.set_cons_succ]
            refine wpAnyH_take (i := 14) (oi := { dst := some 86, op := Op.move (Operand.tmp 85), type := 4, pos := "more.go:45", after := #[{ on := 13, ground := Ground.data }, { on := 11, ground := Ground.chain }], guard := none }) (v := ?_) rfl (by kernel_rfl) (by kernel_rfl) (by kernel_rfl) (fun _ _ _ h => h) (Or.inl ⟨by rfl, ?_⟩) (by assumption) ?_
            rotate_left
            · intro w hSw
              (try dsimp only at hSw)
              go_simp
              (try simp only [hwr1, hwr2, hwr3])
              try with_reducible rfl
            try simp only [Act.put, List.setIfInBounds_toArray, List.set_cons_zero, List.set_cons_succ]
            refine wpAnyH_take (i := 15) (oi := { dst := some 87, op := Op.load 24 (Operand.tmp 14), type := 24, pos := "more.go:45", after := #[{ on := 14, ground := Ground.guard }], guard := some (14, false) }) (v := ?_) rfl (by kernel_rfl) (by kernel_rfl) (by kernel_rfl) (fun _ _ _ h => h) (Or.inl ⟨by rfl, ?_⟩) (by assumption) ?_
            rotate_left
            · intro w hSw
              (try dsimp only at hSw)
              go_simp
              (try simp only [hwr1, hwr2, hwr3])
              try with_reducible rfl
            try simp only [Act.put, List.setIfInBounds_toArray, List.set_cons_zero, List.set_cons_succ]
            refine wpAnyH_take (i := 16) (oi := { dst := some 88, op := Op.move (Operand.tmp 17), type := 3, pos := "more.go:45", after := #[{ on := 14, ground := Ground.guard }], guard := some (14, false) }) (v := ?_) rfl (by kernel_rfl) (by kernel_rfl) (by kernel_rfl) (fun _ _ _ h => h) (Or.inl ⟨by rfl, ?_⟩) (by assumption) ?_
            rotate_left
            · intro w hSw
              (try dsimp only at hSw)
              go_simp
              (try simp only [hwr1, hwr2, hwr3])
              try with_reducible rfl
            try simp only [Act.put, List.setIfInBounds_toArray, List.set_cons_zero, List.set_cons_succ]
            refine wpAnyH_take (i := 18) (oi := { dst := some 90, op := Op.load 24 (Operand.tmp 2), type := 24, pos := "more.go:45", after := #[{ on := 14, ground := Ground.guard }], guard := some (14, false) }) (v := ?_) rfl (by kernel_rfl) (by kernel_rfl) (by kernel_rfl) (fun _ _ _ h => h) (Or.inl ⟨by rfl, ?_⟩) (by assumption) ?_
            rotate_left
            · intro w hSw
              (try dsimp only at hSw)
              go_simp
              (try simp only [hwr1, hwr2, hwr3])
              try with_reducible rfl
            try simp only [Act.put, List.setIfInBounds_toArray, List.set_cons_zero, List.set_cons_succ]
            refine wpAnyH_take (i := 19) (oi := { dst := some 91, op := Op.move (Operand.tmp 17), type := 3, pos := "more.go:45", after := #[{ on := 14, ground := Ground.guard }], guard := some (14, false) }) (v := ?_) rfl (by kernel_rfl) (by kernel_rfl) (by kernel_rfl) (fun _ _ _ h => h) (Or.inl ⟨by rfl, ?_⟩) (by assumption) ?_
            rotate_left
            · intro w hSw
              (try dsimp only at hSw)
              go_simp
              (try simp only [hwr1, hwr2, hwr3])
              try with_reducible rfl
            try simp only [Act.put, List.setIfInBounds_toArray, List.set_cons_zero, List.set_cons_succ]
            refine wpAnyH_take (i := 20) (oi := { dst := some 92, op := Op.move (Operand.tmp 16), type := 3, pos := "more.go:45", after := #[{ on := 14, ground := Ground.guard }], guard := some (14, false) }) (v := ?_) rfl (by kernel_rfl) (by kernel_rfl) (by kernel_rfl) (fun _ _ _ h => h) (Or.inl ⟨by rfl, ?_⟩) (by assumption) ?_
            rotate_left
            · intro w hSw
              (try dsimp only at hSw)
              go_simp
              (try simp only [hwr1, hwr2, hwr3])
              try with_reducible rfl
            try simp only [Act.put, List.setIfInBounds_toArray, List.set_cons_zero, List.set_cons_succ]
            refine wpAnyH_take (i := 21) (oi := { dst := some 93, op := Op.binOp BinOp.add 3 (Operand.tmp 91) (Operand.tmp 92) 3, type := 3, pos := "more.go:45", after := #[{ on := 19, ground := Ground.data }, { on := 20, ground := Ground.data }, { on := 14, ground := Ground.guard }], guard := some (14, false) }) (v := ?_) rfl (by kernel_rfl) (by kernel_rfl) (by kernel_rfl) (fun _ _ _ h => h) (Or.inl ⟨by rfl, ?_⟩) (by assumption) ?_
            rotate_left
            · intro w hSw
              (try dsimp only at hSw)
              go_simp
              (try simp only [hwr1, hwr2, hwr3])
              try with_reducible rfl
            try simp only [Act.put, List.setIfInBounds_toArray, List.set_cons_zero, List.set_cons_succ]
            refine wpAnyH_ready (rs := [17]) (by kernel_rfl) (by simp) ?_
            refine AllReadyH.cons (o := { dst := some 89, op := Op.call { callee := Callee.value (Operand.func 17), args := #[Operand.tmp 87, Operand.tmp 88], argTypes := #[24, 3] }, type := 4, pos := "more.go:45", after := #[{ on := 15, ground := Ground.data }, { on := 16, ground := Ground.data }, { on := 14, ground := Ground.chain }, { on := 14, ground := Ground.guard }], guard := some (14, false) }) rfl (fun K hK => ?_) AllReadyH.nil
            go_simp
            with_reducible refine (Bit_b zh_r2.v HR.out).mono ?_
            rintro e zu3 ⟨rfl, zhu3⟩
            have zh_a3 := zh_a2.nx zhu3
            have zh_l3 := zh_l2.nx zhu3
            have zh_r3 := zh_r2.nx zhu3
            have zh_s3 := zh_s2.nx zhu3
            have zhU3 := bnx zhU2 zhu3
            have zK3 := keep_four zh_a3 zh_l3 zh_r3 zh_s3
            go_wp2_with fail
            refine hK.out _ _ ?_ (fun hHeld => ?_)
            · exact zK3
            clear hK K
            try simp only [Act.put, List.setIfInBounds_toArray, List.set_cons_zero, List.set_cons_succ]
            refine wpAnyH_ready (rs := [22]) (by kernel_rfl) (by simp) ?_
            refine AllReadyH.cons (o := { dst := some 94, op := Op.call { callee := Callee.value (Operand.func 17), args := #[Operand.tmp 90, Operand.tmp 93], argTypes := #[24, 3] }, type := 4, pos := "more.go:45", after := #[{ on := 18, ground := Ground.data }, { on := 21, ground := Ground.data }, { on := 17, ground := Ground.chain }, { on := 14, ground := Ground.guard }], guard := some (14, false) }) rfl (fun K hK => ?_) AllReadyH.nil
            go_simp
            with_reducible refine (Bit_b zh_a3.v HR'.out).mono ?_
            rintro e zu4 ⟨rfl, zhu4⟩
            have zh_a4 := zh_a3.nx zhu4
            have zh_l4 := zh_l3.nx zhu4
            have zh_r4 := zh_r3.nx zhu4
            have zh_s4 := zh_s3.nx zhu4
            have zhU4 := bnx zhU3 zhu4
            have zK4 := keep_four zh_a4 zh_l4 zh_r4 zh_s4
            go_wp2_with fail
            refine hK.out _ _ ?_ (fun hHeld => ?_)
            · exact zK4
            clear hK K
            try simp only [Act.put, List.setIfInBounds_toArray, List.set_cons_zero, List.set_cons_succ]
            refine wpAnyH_take (i := 23) (oi := { dst := some 95, op := Op.binOp BinOp.neq 4 (Operand.tmp 89) (Operand.tmp 94) 4, type := 4, pos := "more.go:45", after := #[{ on := 17, ground := Ground.data }, { on := 22, ground := Ground.data }, { on := 14, ground := Ground.guard }], guard := some (14, false) }) (v := ?_) rfl (by kernel_rfl) (by kernel_rfl) (by kernel_rfl) (fun _ _ _ h => h) (Or.inl ⟨by rfl, ?_⟩) (by assumption) ?_
            rotate_left
            · intro w hSw
              (try dsimp only at hSw)
              go_simp
              (try simp only [hwr1, hwr2, hwr3])
              try with_reducible rfl
            try simp only [Act.put, List.setIfInBounds_toArray, List.set_cons_zero, List.set_cons_succ]
            refine wpAnyH_take (i := 24) (oi := { dst := some 96, op := Op.pick (Operand.tmp 86) (Operand.const (Value.bool true)) (Operand.tmp 95), type := 4, pos := "more.go:45", after := #[{ on := 14, ground := Ground.data }, { on := 23, ground := Ground.data }], guard := none }) (v := ?_) rfl (by kernel_rfl) (by kernel_rfl) (by kernel_rfl) (fun _ _ _ h => h) (Or.inl ⟨by rfl, ?_⟩) (by assumption) ?_
            rotate_left
            · intro w hSw
              (try dsimp only at hSw)
              go_simp
              (try simp only [hwr1, hwr2, hwr3])
              try with_reducible rfl
            try simp only [Act.put, List.setIfInBounds_toArray, List.set_cons_zero, List.set_cons_succ]
            refine wpAnyH_take (i := 25) (oi := { dst := some 97, op := Op.move (Operand.tmp 96), type := 4, pos := "more.go:45", after := #[{ on := 24, ground := Ground.data }, { on := 22, ground := Ground.chain }], guard := none }) (v := ?_) rfl (by kernel_rfl) (by kernel_rfl) (by kernel_rfl) (fun _ _ _ h => h) (Or.inl ⟨by rfl, ?_⟩) (by assumption) ?_
            rotate_left
            · intro w hSw
              (try dsimp only at hSw)
              go_simp
              (try simp only [hwr1, hwr2, hwr3])
              try with_reducible rfl
            try simp only [Act.put, List.setIfInBounds_toArray, List.set_cons_zero, List.set_cons_succ]
            refine wpAnyH_take (i := 26) (oi := { dst := some 98, op := Op.load 24 (Operand.tmp 15), type := 24, pos := "more.go:45", after := #[{ on := 25, ground := Ground.guard }], guard := some (25, false) }) (v := ?_) rfl (by kernel_rfl) (by kernel_rfl) (by kernel_rfl) (fun _ _ _ h => h) (Or.inl ⟨by rfl, ?_⟩) (by assumption) ?_
            rotate_left
            · intro w hSw
              (try dsimp only at hSw)
              go_simp
              (try simp only [hwr1, hwr2, hwr3])
              try with_reducible rfl
            try simp only [Act.put, List.setIfInBounds_toArray, List.set_cons_zero, List.set_cons_succ]
            refine wpAnyH_take (i := 27) (oi := { dst := some 99, op := Op.move (Operand.tmp 17), type := 3, pos := "more.go:45", after := #[{ on := 25, ground := Ground.guard }], guard := some (25, false) }) (v := ?_) rfl (by kernel_rfl) (by kernel_rfl) (by kernel_rfl) (fun _ _ _ h => h) (Or.inl ⟨by rfl, ?_⟩) (by assumption) ?_
            rotate_left
            · intro w hSw
              (try dsimp only at hSw)
              go_simp
              (try simp only [hwr1, hwr2, hwr3])
              try with_reducible rfl
            try simp only [Act.put, List.setIfInBounds_toArray, List.set_cons_zero, List.set_cons_succ]
            refine wpAnyH_take (i := 29) (oi := { dst := some 101, op := Op.load 24 (Operand.tmp 2), type := 24, pos := "more.go:45", after := #[{ on := 25, ground := Ground.guard }], guard := some (25, false) }) (v := ?_) rfl (by kernel_rfl) (by kernel_rfl) (by kernel_rfl) (fun _ _ _ h => h) (Or.inl ⟨by rfl, ?_⟩) (by assumption) ?_
            rotate_left
            · intro w hSw
              (try dsimp only at hSw)
              go_simp
              (try simp only [hwr1, hwr2, hwr3])
              try with_reducible rfl
            try simp only [Act.put, List.setIfInBounds_toArray, List.set_cons_zero, List.set_cons_succ]
            refine wpAnyH_take (i := 30) (oi := { dst := some 102, op := Op.move (Operand.tmp 17), type := 3, pos := "more.go:45", after := #[{ on := 25, ground := Ground.guard }], guard := some (25, false) }) (v := ?_) rfl (by kernel_rfl) (by kernel_rfl) (by kernel_rfl) (fun _ _ _ h => h) (Or.inl ⟨by rfl, ?_⟩) (by assumption) ?_
            rotate_left
            · intro w hSw
              (try dsimp only at hSw)
              go_simp
              (try simp only [hwr1, hwr2, hwr3])
              try with_reducible rfl
            try simp only [Act.put, List.setIfInBounds_toArray, List.set_cons_zero, List.set_cons_succ]
            refine wpAnyH_take (i := 31) (oi := { dst := some 103, op := Op.move (Operand.tmp 16), type := 3, pos := "more.go:45", after := #[{ on := 25, ground := Ground.guard }], guard := some (25, false) }) (v := ?_) rfl (by kernel_rfl) (by kernel_rfl) (by kernel_rfl) (fun _ _ _ h => h) (Or.inl ⟨by rfl, ?_⟩) (by assumption) ?_
            rotate_left
            · intro w hSw
              (try dsimp only at hSw)
              go_simp
              (try simp only [hwr1, hwr2, hwr3])
              try with_reducible rfl
            try simp only [Act.put, List.setIfInBounds_toArray, List.set_cons_zero, List.set_cons_succ]
            refine wpAnyH_take (i := 32) (oi := { dst := some 104, op := Op.binOp BinOp.add 3 (Operand.tmp 102) (Operand.tmp 103) 3, type := 3, pos := "more.go:45", after := #[{ on := 30, ground := Ground.data }, { on := 31, ground := Ground.data }, { on := 25, ground := Ground.guard }], guard := some (25, false) }) (v := ?_) rfl (by kernel_rfl) (by kernel_rfl) (by kernel_rfl) (fun _ _ _ h => h) (Or.inl ⟨by rfl, ?_⟩) (by assumption) ?_
            rotate_left
            · intro w hSw
              (try dsimp only at hSw)
              go_simp
              (try simp only [hwr1, hwr2, hwr3])
              try with_reducible rfl
            try simp only [Act.put, List.setIfInBounds_toArray, List.set_cons_zero, List.set_cons_succ]
            refine wpAnyH_take (i := 33) (oi := { dst := some 105, op := Op.fieldAddr 24 (Operand.tmp 2) 0, type := 0, pos := "more.go:45", after := #[{ on := 25, ground := Ground.guard }], guard := some (25, false) }) (v := ?_) rfl (by kernel_rfl) (by kernel_rfl) (by kernel_rfl) (fun _ _ _ h => h) (Or.inl ⟨by rfl, ?_⟩) (by assumption) ?_
            rotate_left
            · intro w hSw
              (try dsimp only at hSw)
              go_simp
              (try simp only [hwr1, hwr2, hwr3])
              try with_reducible rfl
            try simp only [Act.put, List.setIfInBounds_toArray, List.set_cons_zero, List.set_cons_succ]
            refine wpAnyH_take (i := 34) (oi := { dst := some 106, op := Op.load 3 (Operand.tmp 105), type := 3, pos := "more.go:45", after := #[{ on := 33, ground := Ground.data }, { on := 25, ground := Ground.guard }], guard := some (25, false) }) (v := ?_) rfl (by kernel_rfl) (by kernel_rfl) (by kernel_rfl) (fun _ _ _ h => h) (Or.inl ⟨by rfl, ?_⟩) (by assumption) ?_
            rotate_left
            · intro w hSw
              (try dsimp only at hSw)
              go_simp
              (try simp only [hwr1, hwr2, hwr3])
              try with_reducible rfl
            try simp only [Act.put, List.setIfInBounds_toArray, List.set_cons_zero, List.set_cons_succ]
            refine wpAnyH_take (i := 35) (oi := { dst := some 107, op := Op.binOp BinOp.sub 3 (Operand.tmp 106) (Operand.const (Value.int IntKind.i64 1)) 3, type := 3, pos := "more.go:45", after := #[{ on := 34, ground := Ground.data }, { on := 25, ground := Ground.guard }], guard := some (25, false) }) (v := ?_) rfl (by kernel_rfl) (by kernel_rfl) (by kernel_rfl) (fun _ _ _ h => h) (Or.inl ⟨by rfl, ?_⟩) (by assumption) ?_
            rotate_left
            · intro w hSw
              (try dsimp only at hSw)
              go_simp
              (try simp only [hwr1, hwr2, hwr3])
              try with_reducible rfl
            try simp only [Act.put, List.setIfInBounds_toArray, List.set_cons_zero, List.set_cons_succ]
            refine wpAnyH_take (i := 36) (oi := { dst := some 108, op := Op.call { callee := Callee.builtin Builtin.min, args := #[Operand.tmp 104, Operand.tmp 107], argTypes := #[3, 3] }, type := 3, pos := "more.go:45", after := #[{ on := 32, ground := Ground.data }, { on := 35, ground := Ground.data }, { on := 25, ground := Ground.guard }], guard := some (25, false) }) (v := ?_) rfl (by kernel_rfl) (by kernel_rfl) (by kernel_rfl) (fun _ _ _ h => h) (Or.inl ⟨by rfl, ?_⟩) (by assumption) ?_
            rotate_left
            · intro w hSw
              (try dsimp only at hSw)
              go_simp
              (try simp only [hwr1, hwr2, hwr3])
              try with_reducible rfl
            try simp only [Act.put, List.setIfInBounds_toArray, List.set_cons_zero, List.set_cons_succ]
            refine wpAnyH_ready (rs := [28]) (by kernel_rfl) (by simp) ?_
            refine AllReadyH.cons (o := { dst := some 100, op := Op.call { callee := Callee.value (Operand.func 17), args := #[Operand.tmp 98, Operand.tmp 99], argTypes := #[24, 3] }, type := 4, pos := "more.go:45", after := #[{ on := 26, ground := Ground.data }, { on := 27, ground := Ground.data }, { on := 25, ground := Ground.chain }, { on := 25, ground := Ground.guard }], guard := some (25, false) }) rfl (fun K hK => ?_) AllReadyH.nil
            go_simp
            with_reducible refine (Bit_b zh_s4.v HS.out).mono ?_
            rintro e zu5 ⟨rfl, zhu5⟩
            have zh_a5 := zh_a4.nx zhu5
            have zh_l5 := zh_l4.nx zhu5
            have zh_r5 := zh_r4.nx zhu5
            have zh_s5 := zh_s4.nx zhu5
            have zhU5 := bnx zhU4 zhu5
            have zK5 := keep_four zh_a5 zh_l5 zh_r5 zh_s5
            go_wp2_with fail
            refine hK.out _ _ ?_ (fun hHeld => ?_)
            · exact zK5
            clear hK K
            try simp only [Act.put, List.setIfInBounds_toArray, List.set_cons_zero, List.set_cons_succ]
            refine wpAnyH_ready (rs := [37]) (by kernel_rfl) (by simp) ?_
            refine AllReadyH.cons (o := { dst := some 109, op := Op.call { callee := Callee.value (Operand.func 17), args := #[Operand.tmp 101, Operand.tmp 108], argTypes := #[24, 3] }, type := 4, pos := "more.go:45", after := #[{ on := 29, ground := Ground.data }, { on := 36, ground := Ground.data }, { on := 28, ground := Ground.chain }, { on := 25, ground := Ground.guard }], guard := some (25, false) }) rfl (fun K hK => ?_) AllReadyH.nil
            go_simp
            with_reducible refine (Bit_b zh_a5.v HS'.out).mono ?_
            rintro e zu6 ⟨rfl, zhu6⟩
            have zh_a6 := zh_a5.nx zhu6
            have zh_l6 := zh_l5.nx zhu6
            have zh_r6 := zh_r5.nx zhu6
            have zh_s6 := zh_s5.nx zhu6
            have zhU6 := bnx zhU5 zhu6
            have zK6 := keep_four zh_a6 zh_l6 zh_r6 zh_s6
            go_wp2_with fail
            refine hK.out _ _ ?_ (fun hHeld => ?_)
            · exact zK6
            clear hK K
            try simp only [Act.put, List.setIfInBounds_toArray, List.set_cons_zero, List.set_cons_succ]
            refine wpAnyH_take (i := 38) (oi := { dst := some 110, op := Op.binOp BinOp.neq 4 (Operand.tmp 100) (Operand.tmp 109) 4, type := 4, pos := "more.go:45", after := #[{ on := 28, ground := Ground.data }, { on := 37, ground := Ground.data }, { on := 25, ground := Ground.guard }], guard := some (25, false) }) (v := ?_) rfl (by kernel_rfl) (by kernel_rfl) (by kernel_rfl) (fun _ _ _ h => h) (Or.inl ⟨by rfl, ?_⟩) (by assumption) ?_
            rotate_left
            · intro w hSw
              (try dsimp only at hSw)
              go_simp
              (try simp only [hwr1, hwr2, hwr3])
              try with_reducible rfl
            try simp only [Act.put, List.setIfInBounds_toArray, List.set_cons_zero, List.set_cons_succ]
            refine wpAnyH_take (i := 39) (oi := { dst := some 111, op := Op.pick (Operand.tmp 97) (Operand.const (Value.bool true)) (Operand.tmp 110), type := 4, pos := "more.go:45", after := #[{ on := 25, ground := Ground.data }, { on := 38, ground := Ground.data }], guard := none }) (v := ?_) rfl (by kernel_rfl) (by kernel_rfl) (by kernel_rfl) (fun _ _ _ h => h) (Or.inl ⟨by rfl, ?_⟩) (by assumption) ?_
            rotate_left
            · intro w hSw
              (try dsimp only at hSw)
              go_simp
              (try simp only [hwr1, hwr2, hwr3])
              try with_reducible rfl
            try simp only [Act.put, List.setIfInBounds_toArray, List.set_cons_zero, List.set_cons_succ]
            refine wpAnyH_done (by kernel_rfl) ?_ _
            refine NoPanic.normal ?_
            have HUU := Lib.hid (bnx hb zhU6)
            clear hwr1 hwr2 hwr3 zh_a0 zh_l0 zh_r0 zh_s0 zh_a1 zh_l1 zh_r1 zh_s1 zh_a2 zh_l2 zh_r2 zh_s2 zh_a3 zh_l3 zh_r3 zh_s3 zh_a4 zh_l4 zh_r4 zh_s4 zh_a5 zh_l5 zh_r5 zh_s5 zh_a6 zh_l6 zh_r6 zh_s6 zhU0 zhU1 zhU2 zhU3 zhU4 zhU5 zhU6 zhu1 zhu2 zhu3 zhu4 zhu5 zhu6 zK0 zK1 zK2 zK3 zK4 zK5 zK6
            go_wp2
            go_roundw
            case rel => exact ⟨i + 1, by omega, by go_num, HUU.out⟩
            case measure => simp [intOf]; omega
          · have HL : Hid (tb (f_sll W N j) (i : Int) = false) := by
              have := HL0.out; rw [decide_eq_false hji, Bool.false_and] at this; exact this
            clear HL0
            go_wp2_with fail
            have hwr1 : IntKind.i64.wrap ((i : Int) + (j : Int)) = (i : Int) + (j : Int) := IntWalk.i64_in _ (by omega)
            have hwr2 : IntKind.i64.wrap ((W : Int) - 1) = (W : Int) - 1 := IntWalk.i64_in _ (by omega)
            have hwr3 : IntKind.i64.wrap ((i : Int) - (j : Int)) = (i : Int) - (j : Int) := IntWalk.i64_in _ (by omega)
            have zhU0 := (Below.refl (wr).heap.size wr).drew
            have zh_a0 := h_a.nx zhU0
            have zh_l0 := h_l.nx zhU0
            have zh_r0 := h_r.nx zhU0
            have zh_s0 := h_s.nx zhU0
            have zK0 := keep_four zh_a0 zh_l0 zh_r0 zh_s0
            clear p_a1 p_a2 p_a3 p_zero1 p_zero2 p_zero3 p_one1 p_one2 p_one3 p_k1 p_k2 p_k3 p_l1 p_l2 p_l3 p_r1 p_r2 p_r3 p_s1 p_s2 p_s3
            refine wp_region_noPanic ?_
            refine wp_region_held_drew (S := fun w' => w'.cell? ⟨w.heap.size, 0, none⟩ = some (.int .i64 W) ∧ w'.cell? ⟨w.heap.size, 1, none⟩ = some (.slice (some ad) (lm W) c) ∧ w'.cell? ⟨gw5, 0, none⟩ = some (.int .i64 W) ∧ w'.cell? ⟨gw5, 1, none⟩ = some (.slice (some ad5) (lm W) c5) ∧ w'.cell? ⟨gw6, 0, none⟩ = some (.int .i64 W) ∧ w'.cell? ⟨gw6, 1, none⟩ = some (.slice (some ad6) (lm W) c6) ∧ w'.cell? ⟨gw7, 0, none⟩ = some (.int .i64 W) ∧ w'.cell? ⟨gw7, 1, none⟩ = some (.slice (some ad7) (lm W) c7)) (by kernel_rfl) ?_ (fun hHeld => ?_)
            · exact zK0
            refine wpAnyH_take (i := 0) (oi := { dst := some 72, op := Op.load 24 (Operand.tmp 13), type := 24, pos := "more.go:45", after := #[], guard := none }) (v := ?_) rfl (by kernel_rfl) (by kernel_rfl) (by kernel_rfl) (fun _ _ _ h => h) (Or.inl ⟨by rfl, ?_⟩) (by assumption) ?_
            rotate_left
            · intro w hSw
              (try dsimp only at hSw)
              go_simp
              (try simp only [hwr1, hwr2, hwr3])
              try with_reducible rfl
            try simp only [Act.put, List.setIfInBounds_toArray, List.set_cons_zero, List.set_cons_succ]
            refine wpAnyH_take (i := 1) (oi := { dst := some 73, op := Op.move (Operand.tmp 17), type := 3, pos := "more.go:45", after := #[], guard := none }) (v := ?_) rfl (by kernel_rfl) (by kernel_rfl) (by kernel_rfl) (fun _ _ _ h => h) (Or.inl ⟨by rfl, ?_⟩) (by assumption) ?_
            rotate_left
            · intro w hSw
              (try dsimp only at hSw)
              go_simp
              (try simp only [hwr1, hwr2, hwr3])
              try with_reducible rfl
            try simp only [Act.put, List.setIfInBounds_toArray, List.set_cons_zero, List.set_cons_succ]
            refine wpAnyH_take (i := 3) (oi := { dst := some 75, op := Op.move (Operand.tmp 17), type := 3, pos := "more.go:45", after := #[], guard := none }) (v := ?_) rfl (by kernel_rfl) (by kernel_rfl) (by kernel_rfl) (fun _ _ _ h => h) (Or.inl ⟨by rfl, ?_⟩) (by assumption) ?_
            rotate_left
            · intro w hSw
              (try dsimp only at hSw)
              go_simp
              (try simp only [hwr1, hwr2, hwr3])
              try with_reducible rfl
            try simp only [Act.put, List.setIfInBounds_toArray, List.set_cons_zero, List.set_cons_succ]
            refine wpAnyH_take (i := 4) (oi := { dst := some 76, op := Op.move (Operand.tmp 16), type := 3, pos := "more.go:45", after := #[], guard := none }) (v := ?_) rfl (by kernel_rfl) (by kernel_rfl) (by kernel_rfl) (fun _ _ _ h => h) (Or.inl ⟨by rfl, ?_⟩) (by assumption) ?_
            rotate_left
            · intro w hSw
              (try dsimp only at hSw)
              go_simp
              (try simp only [hwr1, hwr2, hwr3])
              try with_reducible rfl
            try simp only [Act.put, List.setIfInBounds_toArray, List.set_cons_zero, List.set_cons_succ]
            refine wpAnyH_take (i := 5) (oi := { dst := some 77, op := Op.binOp BinOp.geq 3 (Operand.tmp 75) (Operand.tmp 76) 3, type := 4, pos := "more.go:45", after := #[{ on := 3, ground := Ground.data }, { on := 4, ground := Ground.data }], guard := none }) (v := ?_) rfl (by kernel_rfl) (by kernel_rfl) (by kernel_rfl) (fun _ _ _ h => h) (Or.inl ⟨by rfl, ?_⟩) (by assumption) ?_
            rotate_left
            · intro w hSw
              (try dsimp only at hSw)
              go_simp
              (try simp only [hwr1, hwr2, hwr3])
              try with_reducible rfl
            try simp only [Act.put, List.setIfInBounds_toArray, List.set_cons_zero, List.set_cons_succ]
            refine wpAnyH_ready (rs := [2]) (by kernel_rfl) (by simp) ?_
            refine AllReadyH.cons (o := { dst := some 74, op := Op.call { callee := Callee.value (Operand.func 17), args := #[Operand.tmp 72, Operand.tmp 73], argTypes := #[24, 3] }, type := 4, pos := "more.go:45", after := #[{ on := 0, ground := Ground.data }, { on := 1, ground := Ground.data }], guard := none }) rfl (fun K hK => ?_) AllReadyH.nil
            go_simp
            with_reducible refine (Bit_b zh_l0.v HL.out).mono ?_
            rintro e zu1 ⟨rfl, zhu1⟩
            have zh_a1 := zh_a0.nx zhu1
            have zh_l1 := zh_l0.nx zhu1
            have zh_r1 := zh_r0.nx zhu1
            have zh_s1 := zh_s0.nx zhu1
            have zhU1 := bnx zhU0 zhu1
            have zK1 := keep_four zh_a1 zh_l1 zh_r1 zh_s1
            go_wp2_with fail
            refine hK.out _ _ ?_ (fun hHeld => ?_)
            · exact zK1
            clear hK K
            try simp only [Act.put, List.setIfInBounds_toArray, List.set_cons_zero, List.set_cons_succ]
            refine wpAnyH_take (i := 6) (oi := { dst := some 78, op := Op.move (Operand.tmp 77), type := 4, pos := "more.go:45", after := #[{ on := 5, ground := Ground.data }, { on := 2, ground := Ground.chain }], guard := none }) (v := ?_) rfl (by kernel_rfl) (by kernel_rfl) (by kernel_rfl) (fun _ _ _ h => h) (Or.inl ⟨by rfl, ?_⟩) (by assumption) ?_
            rotate_left
            · intro w hSw
              (try dsimp only at hSw)
              go_simp
              (try simp only [hwr1, hwr2, hwr3])
              try with_reducible rfl
            try simp only [Act.put, List.setIfInBounds_toArray, List.set_cons_zero, List.set_cons_succ]
            refine wpAnyH_take (i := 7) (oi := { dst := some 79, op := Op.load 24 (Operand.tmp 2), type := 24, pos := "more.go:45", after := #[{ on := 6, ground := Ground.guard }], guard := some (6, true) }) (v := undef) rfl (by kernel_rfl) (by kernel_rfl) (by kernel_rfl) (fun _ _ _ h => h) (Or.inr ⟨by rfl, rfl⟩) (by assumption) ?_
            try simp only [Act.put, List.setIfInBounds_toArray, List.set_cons_zero, List.set_cons_succ]
            refine wpAnyH_take (i := 8) (oi := { dst := some 80, op := Op.move (Operand.tmp 17), type := 3, pos := "more.go:45", after := #[{ on := 6, ground := Ground.guard }], guard := some (6, true) }) (v := undef) rfl (by kernel_rfl) (by kernel_rfl) (by kernel_rfl) (fun _ _ _ h => h) (Or.inr ⟨by rfl, rfl⟩) (by assumption) ?_
            try simp only [Act.put, List.setIfInBounds_toArray, List.set_cons_zero, List.set_cons_succ]
            refine wpAnyH_take (i := 9) (oi := { dst := some 81, op := Op.move (Operand.tmp 16), type := 3, pos := "more.go:45", after := #[{ on := 6, ground := Ground.guard }], guard := some (6, true) }) (v := undef) rfl (by kernel_rfl) (by kernel_rfl) (by kernel_rfl) (fun _ _ _ h => h) (Or.inr ⟨by rfl, rfl⟩) (by assumption) ?_
            try simp only [Act.put, List.setIfInBounds_toArray, List.set_cons_zero, List.set_cons_succ]
            refine wpAnyH_take (i := 10) (oi := { dst := some 82, op := Op.binOp BinOp.sub 3 (Operand.tmp 80) (Operand.tmp 81) 3, type := 3, pos := "more.go:45", after := #[{ on := 8, ground := Ground.data }, { on := 9, ground := Ground.data }, { on := 6, ground := Ground.guard }], guard := some (6, true) }) (v := undef) rfl (by kernel_rfl) (by kernel_rfl) (by kernel_rfl) (fun _ _ _ h => h) (Or.inr ⟨by rfl, rfl⟩) (by assumption) ?_
            try simp only [Act.put, List.setIfInBounds_toArray, List.set_cons_zero, List.set_cons_succ]
            refine wpAnyH_take (i := 11) (oi := { dst := some 83, op := Op.call { callee := Callee.value (Operand.func 17), args := #[Operand.tmp 79, Operand.tmp 82], argTypes := #[24, 3] }, type := 4, pos := "more.go:45", after := #[{ on := 7, ground := Ground.data }, { on := 10, ground := Ground.data }, { on := 6, ground := Ground.chain }, { on := 6, ground := Ground.guard }], guard := some (6, true) }) (v := undef) rfl (by kernel_rfl) (by kernel_rfl) (by kernel_rfl) (fun _ _ _ h => h) (Or.inr ⟨by rfl, rfl⟩) (by assumption) ?_
            try simp only [Act.put, List.setIfInBounds_toArray, List.set_cons_zero, List.set_cons_succ]
            refine wpAnyH_take (i := 12) (oi := { dst := some 84, op := Op.pick (Operand.tmp 78) (Operand.tmp 83) (Operand.const (Value.bool false)), type := 4, pos := "more.go:45", after := #[{ on := 6, ground := Ground.data }, { on := 11, ground := Ground.data }], guard := none }) (v := ?_) rfl (by kernel_rfl) (by kernel_rfl) (by kernel_rfl) (fun _ _ _ h => h) (Or.inl ⟨by rfl, ?_⟩) (by assumption) ?_
            rotate_left
            · intro w hSw
              (try dsimp only at hSw)
              go_simp
              (try simp only [hwr1, hwr2, hwr3])
              try with_reducible rfl
            try simp only [Act.put, List.setIfInBounds_toArray, List.set_cons_zero, List.set_cons_succ]
            refine wpAnyH_take (i := 13) (oi := { dst := some 85, op := Op.binOp BinOp.neq 4 (Operand.tmp 74) (Operand.tmp 84) 4, type := 4, pos := "more.go:45", after := #[{ on := 2, ground := Ground.data }, { on := 12, ground := Ground.data }], guard := none }) (v := ?_) rfl (by kernel_rfl) (by kernel_rfl) (by kernel_rfl) (fun _ _ _ h => h) (Or.inl ⟨by rfl, ?_⟩) (by assumption) ?_
            rotate_left
            · intro w hSw
              (try dsimp only at hSw)
              go_simp
              (try simp only [hwr1, hwr2, hwr3])
              try with_reducible rfl
            try simp only [Act.put, List.setIfInBounds_toArray, List.set_cons_zero, List.set_cons_succ]
            refine wpAnyH_take (i := 14) (oi := { dst := some 86, op := Op.move (Operand.tmp 85), type := 4, pos := "more.go:45", after := #[{ on := 13, ground := Ground.data }, { on := 11, ground := Ground.chain }], guard := none }) (v := ?_) rfl (by kernel_rfl) (by kernel_rfl) (by kernel_rfl) (fun _ _ _ h => h) (Or.inl ⟨by rfl, ?_⟩) (by assumption) ?_
            rotate_left
            · intro w hSw
              (try dsimp only at hSw)
              go_simp
              (try simp only [hwr1, hwr2, hwr3])
              try with_reducible rfl
            try simp only [Act.put, List.setIfInBounds_toArray, List.set_cons_zero, List.set_cons_succ]
            refine wpAnyH_take (i := 15) (oi := { dst := some 87, op := Op.load 24 (Operand.tmp 14), type := 24, pos := "more.go:45", after := #[{ on := 14, ground := Ground.guard }], guard := some (14, false) }) (v := ?_) rfl (by kernel_rfl) (by kernel_rfl) (by kernel_rfl) (fun _ _ _ h => h) (Or.inl ⟨by rfl, ?_⟩) (by assumption) ?_
            rotate_left
            · intro w hSw
              (try dsimp only at hSw)
              go_simp
              (try simp only [hwr1, hwr2, hwr3])
              try with_reducible rfl
            try simp only [Act.put, List.setIfInBounds_toArray, List.set_cons_zero, List.set_cons_succ]
            refine wpAnyH_take (i := 16) (oi := { dst := some 88, op := Op.move (Operand.tmp 17), type := 3, pos := "more.go:45", after := #[{ on := 14, ground := Ground.guard }], guard := some (14, false) }) (v := ?_) rfl (by kernel_rfl) (by kernel_rfl) (by kernel_rfl) (fun _ _ _ h => h) (Or.inl ⟨by rfl, ?_⟩) (by assumption) ?_
            rotate_left
            · intro w hSw
              (try dsimp only at hSw)
              go_simp
              (try simp only [hwr1, hwr2, hwr3])
              try with_reducible rfl
            try simp only [Act.put, List.setIfInBounds_toArray, List.set_cons_zero, List.set_cons_succ]
            refine wpAnyH_take (i := 18) (oi := { dst := some 90, op := Op.load 24 (Operand.tmp 2), type := 24, pos := "more.go:45", after := #[{ on := 14, ground := Ground.guard }], guard := some (14, false) }) (v := ?_) rfl (by kernel_rfl) (by kernel_rfl) (by kernel_rfl) (fun _ _ _ h => h) (Or.inl ⟨by rfl, ?_⟩) (by assumption) ?_
            rotate_left
            · intro w hSw
              (try dsimp only at hSw)
              go_simp
              (try simp only [hwr1, hwr2, hwr3])
              try with_reducible rfl
            try simp only [Act.put, List.setIfInBounds_toArray, List.set_cons_zero, List.set_cons_succ]
            refine wpAnyH_take (i := 19) (oi := { dst := some 91, op := Op.move (Operand.tmp 17), type := 3, pos := "more.go:45", after := #[{ on := 14, ground := Ground.guard }], guard := some (14, false) }) (v := ?_) rfl (by kernel_rfl) (by kernel_rfl) (by kernel_rfl) (fun _ _ _ h => h) (Or.inl ⟨by rfl, ?_⟩) (by assumption) ?_
            rotate_left
            · intro w hSw
              (try dsimp only at hSw)
              go_simp
              (try simp only [hwr1, hwr2, hwr3])
              try with_reducible rfl
            try simp only [Act.put, List.setIfInBounds_toArray, List.set_cons_zero, List.set_cons_succ]
            refine wpAnyH_take (i := 20) (oi := { dst := some 92, op := Op.move (Operand.tmp 16), type := 3, pos := "more.go:45", after := #[{ on := 14, ground := Ground.guard }], guard := some (14, false) }) (v := ?_) rfl (by kernel_rfl) (by kernel_rfl) (by kernel_rfl) (fun _ _ _ h => h) (Or.inl ⟨by rfl, ?_⟩) (by assumption) ?_
            rotate_left
            · intro w hSw
              (try dsimp only at hSw)
              go_simp
              (try simp only [hwr1, hwr2, hwr3])
              try with_reducible rfl
            try simp only [Act.put, List.setIfInBounds_toArray, List.set_cons_zero, List.set_cons_succ]
            refine wpAnyH_take (i := 21) (oi := { dst := some 93, op := Op.binOp BinOp.add 3 (Operand.tmp 91) (Operand.tmp 92) 3, type := 3, pos := "more.go:45", after := #[{ on := 19, ground := Ground.data }, { on := 20, ground := Ground.data }, { on := 14, ground := Ground.guard }], guard := some (14, false) }) (v := ?_) rfl (by kernel_rfl) (by kernel_rfl) (by kernel_rfl) (fun _ _ _ h => h) (Or.inl ⟨by rfl, ?_⟩) (by assumption) ?_
            rotate_left
            · intro w hSw
              (try dsimp only at hSw)
              go_simp
              (try simp only [hwr1, hwr2, hwr3])
              try with_reducible rfl
            try simp only [Act.put, List.setIfInBounds_toArray, List.set_cons_zero, List.set_cons_succ]
            refine wpAnyH_ready (rs := [17]) (by kernel_rfl) (by simp) ?_
            refine AllReadyH.cons (o := { dst := some 89, op := Op.call { callee := Callee.value (Operand.func 17), args := #[Operand.tmp 87, Operand.tmp 88], argTypes := #[24, 3] }, type := 4, pos := "more.go:45", after := #[{ on := 15, ground := Ground.data }, { on := 16, ground := Ground.data }, { on := 14, ground := Ground.chain }, { on := 14, ground := Ground.guard }], guard := some (14, false) }) rfl (fun K hK => ?_) AllReadyH.nil
            go_simp
            with_reducible refine (Bit_b zh_r1.v HR.out).mono ?_
            rintro e zu2 ⟨rfl, zhu2⟩
            have zh_a2 := zh_a1.nx zhu2
            have zh_l2 := zh_l1.nx zhu2
            have zh_r2 := zh_r1.nx zhu2
            have zh_s2 := zh_s1.nx zhu2
            have zhU2 := bnx zhU1 zhu2
            have zK2 := keep_four zh_a2 zh_l2 zh_r2 zh_s2
            go_wp2_with fail
            refine hK.out _ _ ?_ (fun hHeld => ?_)
            · exact zK2
            clear hK K
            try simp only [Act.put, List.setIfInBounds_toArray, List.set_cons_zero, List.set_cons_succ]
            refine wpAnyH_ready (rs := [22]) (by kernel_rfl) (by simp) ?_
            refine AllReadyH.cons (o := { dst := some 94, op := Op.call { callee := Callee.value (Operand.func 17), args := #[Operand.tmp 90, Operand.tmp 93], argTypes := #[24, 3] }, type := 4, pos := "more.go:45", after := #[{ on := 18, ground := Ground.data }, { on := 21, ground := Ground.data }, { on := 17, ground := Ground.chain }, { on := 14, ground := Ground.guard }], guard := some (14, false) }) rfl (fun K hK => ?_) AllReadyH.nil
            go_simp
            with_reducible refine (Bit_b zh_a2.v HR'.out).mono ?_
            rintro e zu3 ⟨rfl, zhu3⟩
            have zh_a3 := zh_a2.nx zhu3
            have zh_l3 := zh_l2.nx zhu3
            have zh_r3 := zh_r2.nx zhu3
            have zh_s3 := zh_s2.nx zhu3
            have zhU3 := bnx zhU2 zhu3
            have zK3 := keep_four zh_a3 zh_l3 zh_r3 zh_s3
            go_wp2_with fail
            refine hK.out _ _ ?_ (fun hHeld => ?_)
            · exact zK3
            clear hK K
            try simp only [Act.put, List.setIfInBounds_toArray, List.set_cons_zero, List.set_cons_succ]
            refine wpAnyH_take (i := 23) (oi := { dst := some 95, op := Op.binOp BinOp.neq 4 (Operand.tmp 89) (Operand.tmp 94) 4, type := 4, pos := "more.go:45", after := #[{ on := 17, ground := Ground.data }, { on := 22, ground := Ground.data }, { on := 14, ground := Ground.guard }], guard := some (14, false) }) (v := ?_) rfl (by kernel_rfl) (by kernel_rfl) (by kernel_rfl) (fun _ _ _ h => h) (Or.inl ⟨by rfl, ?_⟩) (by assumption) ?_
            rotate_left
            · intro w hSw
              (try dsimp only at hSw)
              go_simp
              (try simp only [hwr1, hwr2, hwr3])
              try with_reducible rfl
            try simp only [Act.put, List.setIfInBounds_toArray, List.set_cons_zero, List.set_cons_succ]
            refine wpAnyH_take (i := 24) (oi := { dst := some 96, op := Op.pick (Operand.tmp 86) (Operand.const (Value.bool true)) (Operand.tmp 95), type := 4, pos := "more.go:45", after := #[{ on := 14, ground := Ground.data }, { on := 23, ground := Ground.data }], guard := none }) (v := ?_) rfl (by kernel_rfl) (by kernel_rfl) (by kernel_rfl) (fun _ _ _ h => h) (Or.inl ⟨by rfl, ?_⟩) (by assumption) ?_
            rotate_left
            · intro w hSw
              (try dsimp only at hSw)
              go_simp
              (try simp only [hwr1, hwr2, hwr3])
              try with_reducible rfl
            try simp only [Act.put, List.setIfInBounds_toArray, List.set_cons_zero, List.set_cons_succ]
            refine wpAnyH_take (i := 25) (oi := { dst := some 97, op := Op.move (Operand.tmp 96), type := 4, pos := "more.go:45", after := #[{ on := 24, ground := Ground.data }, { on := 22, ground := Ground.chain }], guard := none }) (v := ?_) rfl (by kernel_rfl) (by kernel_rfl) (by kernel_rfl) (fun _ _ _ h => h) (Or.inl ⟨by rfl, ?_⟩) (by assumption) ?_
            rotate_left
            · intro w hSw
              (try dsimp only at hSw)
              go_simp
              (try simp only [hwr1, hwr2, hwr3])
              try with_reducible rfl
            try simp only [Act.put, List.setIfInBounds_toArray, List.set_cons_zero, List.set_cons_succ]
            refine wpAnyH_take (i := 26) (oi := { dst := some 98, op := Op.load 24 (Operand.tmp 15), type := 24, pos := "more.go:45", after := #[{ on := 25, ground := Ground.guard }], guard := some (25, false) }) (v := ?_) rfl (by kernel_rfl) (by kernel_rfl) (by kernel_rfl) (fun _ _ _ h => h) (Or.inl ⟨by rfl, ?_⟩) (by assumption) ?_
            rotate_left
            · intro w hSw
              (try dsimp only at hSw)
              go_simp
              (try simp only [hwr1, hwr2, hwr3])
              try with_reducible rfl
            try simp only [Act.put, List.setIfInBounds_toArray, List.set_cons_zero, List.set_cons_succ]
            refine wpAnyH_take (i := 27) (oi := { dst := some 99, op := Op.move (Operand.tmp 17), type := 3, pos := "more.go:45", after := #[{ on := 25, ground := Ground.guard }], guard := some (25, false) }) (v := ?_) rfl (by kernel_rfl) (by kernel_rfl) (by kernel_rfl) (fun _ _ _ h => h) (Or.inl ⟨by rfl, ?_⟩) (by assumption) ?_
            rotate_left
            · intro w hSw
              (try dsimp only at hSw)
              go_simp
              (try simp only [hwr1, hwr2, hwr3])
              try with_reducible rfl
            try simp only [Act.put, List.setIfInBounds_toArray, List.set_cons_zero, List.set_cons_succ]
            refine wpAnyH_take (i := 29) (oi := { dst := some 101, op := Op.load 24 (Operand.tmp 2), type := 24, pos := "more.go:45", after := #[{ on := 25, ground := Ground.guard }], guard := some (25, false) }) (v := ?_) rfl (by kernel_rfl) (by kernel_rfl) (by kernel_rfl) (fun _ _ _ h => h) (Or.inl ⟨by rfl, ?_⟩) (by assumption) ?_
            rotate_left
            · intro w hSw
              (try dsimp only at hSw)
              go_simp
              (try simp only [hwr1, hwr2, hwr3])
              try with_reducible rfl
            try simp only [Act.put, List.setIfInBounds_toArray, List.set_cons_zero, List.set_cons_succ]
            refine wpAnyH_take (i := 30) (oi := { dst := some 102, op := Op.move (Operand.tmp 17), type := 3, pos := "more.go:45", after := #[{ on := 25, ground := Ground.guard }], guard := some (25, false) }) (v := ?_) rfl (by kernel_rfl) (by kernel_rfl) (by kernel_rfl) (fun _ _ _ h => h) (Or.inl ⟨by rfl, ?_⟩) (by assumption) ?_
            rotate_left
            · intro w hSw
              (try dsimp only at hSw)
              go_simp
              (try simp only [hwr1, hwr2, hwr3])
              try with_reducible rfl
            try simp only [Act.put, List.setIfInBounds_toArray, List.set_cons_zero, List.set_cons_succ]
            refine wpAnyH_take (i := 31) (oi := { dst := some 103, op := Op.move (Operand.tmp 16), type := 3, pos := "more.go:45", after := #[{ on := 25, ground := Ground.guard }], guard := some (25, false) }) (v := ?_) rfl (by kernel_rfl) (by kernel_rfl) (by kernel_rfl) (fun _ _ _ h => h) (Or.inl ⟨by rfl, ?_⟩) (by assumption) ?_
            rotate_left
            · intro w hSw
              (try dsimp only at hSw)
              go_simp
              (try simp only [hwr1, hwr2, hwr3])
              try with_reducible rfl
            try simp only [Act.put, List.setIfInBounds_toArray, List.set_cons_zero, List.set_cons_succ]
            refine wpAnyH_take (i := 32) (oi := { dst := some 104, op := Op.binOp BinOp.add 3 (Operand.tmp 102) (Operand.tmp 103) 3, type := 3, pos := "more.go:45", after := #[{ on := 30, ground := Ground.data }, { on := 31, ground := Ground.data }, { on := 25, ground := Ground.guard }], guard := some (25, false) }) (v := ?_) rfl (by kernel_rfl) (by kernel_rfl) (by kernel_rfl) (fun _ _ _ h => h) (Or.inl ⟨by rfl, ?_⟩) (by assumption) ?_
            rotate_left
            · intro w hSw
              (try dsimp only at hSw)
              go_simp
              (try simp only [hwr1, hwr2, hwr3])
              try with_reducible rfl
            try simp only [Act.put, List.setIfInBounds_toArray, List.set_cons_zero, List.set_cons_succ]
            refine wpAnyH_take (i := 33) (oi := { dst := some 105, op := Op.fieldAddr 24 (Operand.tmp 2) 0, type := 0, pos := "more.go:45", after := #[{ on := 25, ground := Ground.guard }], guard := some (25, false) }) (v := ?_) rfl (by kernel_rfl) (by kernel_rfl) (by kernel_rfl) (fun _ _ _ h => h) (Or.inl ⟨by rfl, ?_⟩) (by assumption) ?_
            rotate_left
            · intro w hSw
              (try dsimp only at hSw)
              go_simp
              (try simp only [hwr1, hwr2, hwr3])
              try with_reducible rfl
            try simp only [Act.put, List.setIfInBounds_toArray, List.set_cons_zero, List.set_cons_succ]
            refine wpAnyH_take (i := 34) (oi := { dst := some 106, op := Op.load 3 (Operand.tmp 105), type := 3, pos := "more.go:45", after := #[{ on := 33, ground := Ground.data }, { on := 25, ground := Ground.guard }], guard := some (25, false) }) (v := ?_) rfl (by kernel_rfl) (by kernel_rfl) (by kernel_rfl) (fun _ _ _ h => h) (Or.inl ⟨by rfl, ?_⟩) (by assumption) ?_
            rotate_left
            · intro w hSw
              (try dsimp only at hSw)
              go_simp
              (try simp only [hwr1, hwr2, hwr3])
              try with_reducible rfl
            try simp only [Act.put, List.setIfInBounds_toArray, List.set_cons_zero, List.set_cons_succ]
            refine wpAnyH_take (i := 35) (oi := { dst := some 107, op := Op.binOp BinOp.sub 3 (Operand.tmp 106) (Operand.const (Value.int IntKind.i64 1)) 3, type := 3, pos := "more.go:45", after := #[{ on := 34, ground := Ground.data }, { on := 25, ground := Ground.guard }], guard := some (25, false) }) (v := ?_) rfl (by kernel_rfl) (by kernel_rfl) (by kernel_rfl) (fun _ _ _ h => h) (Or.inl ⟨by rfl, ?_⟩) (by assumption) ?_
            rotate_left
            · intro w hSw
              (try dsimp only at hSw)
              go_simp
              (try simp only [hwr1, hwr2, hwr3])
              try with_reducible rfl
            try simp only [Act.put, List.setIfInBounds_toArray, List.set_cons_zero, List.set_cons_succ]
            refine wpAnyH_take (i := 36) (oi := { dst := some 108, op := Op.call { callee := Callee.builtin Builtin.min, args := #[Operand.tmp 104, Operand.tmp 107], argTypes := #[3, 3] }, type := 3, pos := "more.go:45", after := #[{ on := 32, ground := Ground.data }, { on := 35, ground := Ground.data }, { on := 25, ground := Ground.guard }], guard := some (25, false) }) (v := ?_) rfl (by kernel_rfl) (by kernel_rfl) (by kernel_rfl) (fun _ _ _ h => h) (Or.inl ⟨by rfl, ?_⟩) (by assumption) ?_
            rotate_left
            · intro w hSw
              (try dsimp only at hSw)
              go_simp
              (try simp only [hwr1, hwr2, hwr3])
              try with_reducible rfl
            try simp only [Act.put, List.setIfInBounds_toArray, List.set_cons_zero, List.set_cons_succ]
            refine wpAnyH_ready (rs := [28]) (by kernel_rfl) (by simp) ?_
            refine AllReadyH.cons (o := { dst := some 100, op := Op.call { callee := Callee.value (Operand.func 17), args := #[Operand.tmp 98, Operand.tmp 99], argTypes := #[24, 3] }, type := 4, pos := "more.go:45", after := #[{ on := 26, ground := Ground.data }, { on := 27, ground := Ground.data }, { on := 25, ground := Ground.chain }, { on := 25, ground := Ground.guard }], guard := some (25, false) }) rfl (fun K hK => ?_) AllReadyH.nil
            go_simp
            with_reducible refine (Bit_b zh_s3.v HS.out).mono ?_
            rintro e zu4 ⟨rfl, zhu4⟩
            have zh_a4 := zh_a3.nx zhu4
            have zh_l4 := zh_l3.nx zhu4
            have zh_r4 := zh_r3.nx zhu4
            have zh_s4 := zh_s3.nx zhu4
            have zhU4 := bnx zhU3 zhu4
            have zK4 := keep_four zh_a4 zh_l4 zh_r4 zh_s4
            go_wp2_with fail
            refine hK.out _ _ ?_ (fun hHeld => ?_)
            · exact zK4
            clear hK K
            try simp only [Act.put, List.setIfInBounds_toArray, List.set_cons_zero, List.set_cons_succ]
            refine wpAnyH_ready (rs := [37]) (by kernel_rfl) (by simp) ?_
            refine AllReadyH.cons (o := { dst := some 109, op := Op.call { callee := Callee.value (Operand.func 17), args := #[Operand.tmp 101, Operand.tmp 108], argTypes := #[24, 3] }, type := 4, pos := "more.go:45", after := #[{ on := 29, ground := Ground.data }, { on := 36, ground := Ground.data }, { on := 28, ground := Ground.chain }, { on := 25, ground := Ground.guard }], guard := some (25, false) }) rfl (fun K hK => ?_) AllReadyH.nil
            go_simp
            with_reducible refine (Bit_b zh_a4.v HS'.out).mono ?_
            rintro e zu5 ⟨rfl, zhu5⟩
            have zh_a5 := zh_a4.nx zhu5
            have zh_l5 := zh_l4.nx zhu5
            have zh_r5 := zh_r4.nx zhu5
            have zh_s5 := zh_s4.nx zhu5
            have zhU5 := bnx zhU4 zhu5
            have zK5 := keep_four zh_a5 zh_l5 zh_r5 zh_s5
            go_wp2_with fail
            refine hK.out _ _ ?_ (fun hHeld => ?_)
            · exact zK5
            clear hK K
            try simp only [Act.put, List.setIfInBounds_toArray, List.set_cons_zero, List.set_cons_succ]
            refine wpAnyH_take (i := 38) (oi := { dst := some 110, op := Op.binOp BinOp.neq 4 (Operand.tmp 100) (Operand.tmp 109) 4, type := 4, pos := "more.go:45", after := #[{ on := 28, ground := Ground.data }, { on := 37, ground := Ground.data }, { on := 25, ground := Ground.guard }], guard := some (25, false) }) (v := ?_) rfl (by kernel_rfl) (by kernel_rfl) (by kernel_rfl) (fun _ _ _ h => h) (Or.inl ⟨by rfl, ?_⟩) (by assumption) ?_
            rotate_left
            · intro w hSw
              (try dsimp only at hSw)
              go_simp
              (try simp only [hwr1, hwr2, hwr3])
              try with_reducible rfl
            try simp only [Act.put, List.setIfInBounds_toArray, List.set_cons_zero, List.set_cons_succ]
            refine wpAnyH_take (i := 39) (oi := { dst := some 111, op := Op.pick (Operand.tmp 97) (Operand.const (Value.bool true)) (Operand.tmp 110), type := 4, pos := "more.go:45", after := #[{ on := 25, ground := Ground.data }, { on := 38, ground := Ground.data }], guard := none }) (v := ?_) rfl (by kernel_rfl) (by kernel_rfl) (by kernel_rfl) (fun _ _ _ h => h) (Or.inl ⟨by rfl, ?_⟩) (by assumption) ?_
            rotate_left
            · intro w hSw
              (try dsimp only at hSw)
              go_simp
              (try simp only [hwr1, hwr2, hwr3])
              try with_reducible rfl
            try simp only [Act.put, List.setIfInBounds_toArray, List.set_cons_zero, List.set_cons_succ]
            refine wpAnyH_done (by kernel_rfl) ?_ _
            refine NoPanic.normal ?_
            have HUU := Lib.hid (bnx hb zhU5)
            clear hwr1 hwr2 hwr3 zh_a0 zh_l0 zh_r0 zh_s0 zh_a1 zh_l1 zh_r1 zh_s1 zh_a2 zh_l2 zh_r2 zh_s2 zh_a3 zh_l3 zh_r3 zh_s3 zh_a4 zh_l4 zh_r4 zh_s4 zh_a5 zh_l5 zh_r5 zh_s5 zhU0 zhU1 zhU2 zhU3 zhU4 zhU5 zhu1 zhu2 zhu3 zhu4 zhu5 zK0 zK1 zK2 zK3 zK4 zK5
            go_wp2
            go_roundw
            case rel => exact ⟨i + 1, by omega, by go_num, HUU.out⟩
            case measure => simp [intOf]; omega
        · obtain rfl : W = i := by omega
          clear hlt hi
          go_wp2_with fail
          have yhU0 := (Below.refl (wr).heap.size wr).drew
          have yh_a0 := h_a.nx yhU0
          have yh_zero0 := h_zero.nx yhU0
          have yh_one0 := h_one.nx yhU0
          have yK0 := keep_three yh_a0 yh_zero0 yh_one0
          clear p_a1 p_a2 p_a3 p_zero1 p_zero2 p_zero3 p_one1 p_one2 p_one3 p_k1 p_k2 p_k3 p_l1 p_l2 p_l3 p_r1 p_r2 p_r3 p_s1 p_s2 p_s3
          go_cut [4] (fun s4 wx => s4 = .bool true ∧ Below (wr).heap.size wr wx)
          case first =>
            go_region_held3 (fun w' => w'.cell? ⟨w.heap.size, 0, none⟩ = some (.int .i64 W) ∧ w'.cell? ⟨w.heap.size, 1, none⟩ = some (.slice (some ad) (lm W) c) ∧ w'.cell? ⟨gw3, 0, none⟩ = some (.int .i64 W) ∧ w'.cell? ⟨gw3, 1, none⟩ = some (.slice (some ad3) (lm W) c3) ∧ w'.cell? ⟨gw4, 0, none⟩ = some (.int .i64 W) ∧ w'.cell? ⟨gw4, 1, none⟩ = some (.slice (some ad4) (lm W) c4))
              (first | exact yK0 | exact yK1 | exact yK2 | exact yK3 | exact yK4 | exact yK5 | exact yK6 | exact yK7)
              (first | (go_at_call 32; ((with_reducible refine (O_sll yh_a0.v yh_one0.v).mono ?_); rintro e yu1 ⟨yad1, yc1, rfl, yhv1, yhf1, yhu1⟩; have yh_a1 := yh_a0.nx yhu1; have yh_zero1 := yh_zero0.nx yhu1; have yh_one1 := yh_one0.nx yhu1; have yt1_1 := yhv1; have yhU1 := bnx yhU0 yhu1; have yK1 := keep_three yh_a1 yh_zero1 yh_one1)) | (go_at_call 32; ((with_reducible refine (O_add yh_a1.v yh_a1.v).mono ?_); rintro e yu2 ⟨yad2, yc2, rfl, yhv2, yhf2, yhu2⟩; have yh_a2 := yh_a1.nx yhu2; have yh_zero2 := yh_zero1.nx yhu2; have yh_one2 := yh_one1.nx yhu2; have yt1_2 := yt1_1.nx yhu2; have yt2_2 := yhv2; have yhU2 := bnx yhU1 yhu2; have yK2 := keep_three yh_a2 yh_zero2 yh_one2)) | (go_at_call 16; ((with_reducible refine (sam_yes yt1_2 yt2_2 (sll_one hW h2)).mono ?_); rintro e yu3 ⟨rfl, yhu3⟩; have yh_a3 := yh_a2.nx yhu3; have yh_zero3 := yh_zero2.nx yhu3; have yh_one3 := yh_one2.nx yhu3; have yt1_3 := yt1_2.nx yhu3; have yt2_3 := yt2_2.nx yhu3; have yhU3 := bnx yhU2 yhu3; have yK3 := keep_three yh_a3 yh_zero3 yh_one3)) | (go_at_call 32; ((with_reducible refine (O_sll yh_a3.v yh_zero3.v).mono ?_); rintro e yu4 ⟨yad4, yc4, rfl, yhv4, yhf4, yhu4⟩; have yh_a4 := yh_a3.nx yhu4; have yh_zero4 := yh_zero3.nx yhu4; have yh_one4 := yh_one3.nx yhu4; have yt1_4 := yt1_3.nx yhu4; have yt2_4 := yt2_3.nx yhu4; have yt3_4 := yhv4; have yhU4 := bnx yhU3 yhu4; have yK4 := keep_three yh_a4 yh_zero4 yh_one4)) | (go_at_call 16; ((with_reducible refine (sam_yes yt3_4 yh_a4.v (sll_zero hW HN.out)).mono ?_); rintro e yu5 ⟨rfl, yhu5⟩; have yh_a5 := yh_a4.nx yhu5; have yh_zero5 := yh_zero4.nx yhu5; have yh_one5 := yh_one4.nx yhu5; have yt1_5 := yt1_4.nx yhu5; have yt2_5 := yt2_4.nx yhu5; have yt3_5 := yt3_4.nx yhu5; have yhU5 := bnx yhU4 yhu5; have yK5 := keep_three yh_a5 yh_zero5 yh_one5)) | (go_at_call 32; ((with_reducible refine (O_sra yh_a5.v yh_zero5.v).mono ?_); rintro e yu6 ⟨yad6, yc6, rfl, yhv6, yhf6, yhu6⟩; have yh_a6 := yh_a5.nx yhu6; have yh_zero6 := yh_zero5.nx yhu6; have yh_one6 := yh_one5.nx yhu6; have yt1_6 := yt1_5.nx yhu6; have yt2_6 := yt2_5.nx yhu6; have yt3_6 := yt3_5.nx yhu6; have yt4_6 := yhv6; have yhU6 := bnx yhU5 yhu6; have yK6 := keep_three yh_a6 yh_zero6 yh_one6)) | (go_at_call 16; ((with_reducible refine (sam_yes yt4_6 yh_a6.v (sra_zero hW h2 HN.out)).mono ?_); rintro e yu7 ⟨rfl, yhu7⟩; have yh_a7 := yh_a6.nx yhu7; have yh_zero7 := yh_zero6.nx yhu7; have yh_one7 := yh_one6.nx yhu7; have yt1_7 := yt1_6.nx yhu7; have yt2_7 := yt2_6.nx yhu7; have yt3_7 := yt3_6.nx yhu7; have yt4_7 := yt4_6.nx yhu7; have yhU7 := bnx yhU6 yhu7; have yK7 := keep_three yh_a7 yh_zero7 yh_one7)))
            all_goals (go_wp2_with fail; go_meet; exact ⟨by first | rfl | simp, yhU7⟩)
          obtain ⟨rfl, hU⟩ := hcut
          clear yh_a0 yh_zero0 yh_one0 yK0 yhU0
          replace h_a := h_a.nx hU
          replace h_zero := h_zero.nx hU
          replace h_one := h_one.nx hU
          replace h_k := h_k.nx hU
          replace h_l := h_l.nx hU
          replace h_r := h_r.nx hU
          replace h_s := h_s.nx hU
          replace hB := bnx hB hU
          clear hU
          obtain ⟨p_a1, p_a2, p_a3⟩ := h_a.parts
          obtain ⟨p_zero1, p_zero2, p_zero3⟩ := h_zero.parts
          obtain ⟨p_one1, p_one2, p_one3⟩ := h_one.parts
          obtain ⟨p_k1, p_k2, p_k3⟩ := h_k.parts
          obtain ⟨p_l1, p_l2, p_l3⟩ := h_l.parts
          obtain ⟨p_r1, p_r2, p_r3⟩ := h_r.parts
          obtain ⟨p_s1, p_s2, p_s3⟩ := h_s.parts
          go_wp2
          go_ret
          exact ⟨rfl, hB⟩
end Go.Proofs.Ytnnoflohekmnbaa
