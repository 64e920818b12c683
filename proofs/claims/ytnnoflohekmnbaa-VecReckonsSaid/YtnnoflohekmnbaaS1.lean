/-
  Rows of bits cut, and made longer, as numbers. A vector, or none, as a result; the reference's Slice and Ite. The reference's Ext and Ite. The walk of VecCuts.
-/
import Derived.Test.YtnnoflohekmnbaaProg
import Derived.WalkKit
import Derived.WalkSpells
import Derived.WalkLawsBesides
import Derived.LoopN
import Derived.IntWalk
import Derived.Lib.Hide
import Derived.Laws.BitsAllLaws
import Derived.Laws.Externs
import Derived.BigQuiet
import Derived.BigRegion
import Derived.Deep.QuietTactic
import Derived.Deep.RegionWith
import Derived.Deep.RegionHeld3
import Derived.StillTailTactics
import Derived.RegionTactic
import Derived.ChangeAlike
import Derived.Test.YtnnoflohekmnbaaN1
import Derived.Test.YtnnoflohekmnbaaN9
import Derived.Test.YtnnoflohekmnbaaN7
import Derived.Test.YtnnoflohekmnbaaE1
import Derived.Test.YtnnoflohekmnbaaC4
import Derived.Test.YtnnoflohekmnbaaC5
set_option linter.unusedVariables false
/- Rows of bits cut, and made longer, as numbers. -/
namespace Go.Proofs.Ytnnoflohekmnbaa
open Go.RowKit
theorem nb_cut (l : List Bool) (lo m : Nat) (h : lo + m ≤ l.length) : nb ((l.drop lo).take m) = nb l / 2 ^ lo % 2 ^ m := by
  refine Nat.eq_of_testBit_eq fun i => ?_
  rw [nb_bit, Nat.testBit_mod_two_pow, Nat.testBit_div_two_pow, nb_bit]
  by_cases hi : i < m
  · simp only [List.getD_eq_getElem?_getD, List.getElem?_take, List.getElem?_drop]
    rw [if_pos hi]
    simp [hi, Nat.add_comm]
  · simp [List.getD_eq_getElem?_getD, List.getElem?_take, hi]
theorem nb_falses (n : Nat) : nb (List.replicate n false) = 0 := by
  refine Nat.eq_of_testBit_eq fun i => ?_
  rw [nb_bit, Nat.zero_testBit, List.getD_eq_getElem?_getD, List.getElem?_replicate]
  split <;> rfl
theorem ext_low (l : List Bool) (n : Nat) : nb (l ++ List.replicate n false) = nb l % 2 ^ (l.length + n) := by
  rw [nb_app, nb_falses, Nat.mul_zero, Nat.add_zero, Nat.mod_eq_of_lt]
  exact Nat.lt_of_lt_of_le (nb_lt l) (Nat.pow_le_pow_right (by omega) (by omega))
theorem ext_high (l : List Bool) (n : Nat) (h : l.length + n ≤ 128) : nb (l ++ List.replicate n true) = (nb l ||| (2 ^ 128 - 1 - (2 ^ l.length - 1))) % 2 ^ (l.length + n) := by
  refine Nat.eq_of_testBit_eq fun i => ?_
  have hm : 2 ^ l.length - 1 < 2 ^ 128 := Nat.lt_of_lt_of_le (Nat.sub_lt (Nat.two_pow_pos _) (by omega)) (Nat.pow_le_pow_right (by omega) (by omega))
  rw [nb_bit, Nat.testBit_mod_two_pow, Nat.testBit_or, Nat.sub_sub, Nat.add_comm 1, Nat.testBit_two_pow_sub_succ hm, Nat.testBit_two_pow_sub_one, nb_bit]
  by_cases h1 : i < l.length
  · have e : (l ++ List.replicate n true).getD i false = l.getD i false := by
      rw [List.getD_eq_getElem?_getD, List.getElem?_append_left h1, ← List.getD_eq_getElem?_getD]
    rw [e]
    simp [h1, show i < l.length + n by omega]
  · have e : (l ++ List.replicate n true).getD i false = decide (i < l.length + n) := by
      rw [List.getD_eq_getElem?_getD, List.getElem?_append_right (show l.length ≤ i by omega), List.getElem?_replicate]
      by_cases h2 : i < l.length + n
      · rw [if_pos (by omega), decide_eq_true h2]; rfl
      · rw [if_neg (by omega), decide_eq_false h2]; rfl
    rw [e]
    have e2 : l.getD i false = false := by rw [List.getD_eq_getElem?_getD, List.getElem?_eq_none (by omega)]; rfl
    rw [e2]
    by_cases h2 : i < l.length + n
    · simp [h1, h2, show i < 128 by omega]
    · simp [h2]
end Go.Proofs.Ytnnoflohekmnbaa
/- A vector, or none, as a result; the reference's Slice and Ite. -/
namespace Go.Proofs.Ytnnoflohekmnbaa
open Go.RowKit
/-- A vector of that width and number, or none. -/
def Rs (w : World) (V : Int) (A : Option Addr) (k c : Nat) (R : Option (Nat × Nat)) : Prop :=
  match R with
  | none => V = 0 ∧ A = none ∧ k = 0 ∧ c = 0
  | some r => V = (r.1 : Int) ∧ k = lm r.1 ∧ ∃ ad, A = some ad ∧ Vc w w.heap.size ad c r.1 r.2
theorem Rs.nx {w w' : World} {V : Int} {A : Option Addr} {k c : Nat} {R : Option (Nat × Nat)} (h : Rs w V A k c R) (hb : Below w.heap.size w w') : Rs w' V A k c R := by
  cases R with
  | none => exact h
  | some r => obtain ⟨h1, h2, ad, h3, h4⟩ := h; exact ⟨h1, h2, ad, h3, h4.nx hb⟩
/-- A call that tells a vector or none, and an error. -/
def RetR (w0 : World) (R : Option (Nat × Nat)) (x : Int) (e : Ending) (w' : World) : Prop := ∃ V A k c, e = .returned (.tuple #[.agg #[.int .i64 V, .slice A k c], .int .i64 x]) ∧ Rs w' V A k c R ∧ Below w0.heap.size w0 w'
theorem RetVE.r {w0 w' : World} {W N : Nat} {e : Ending} (h : RetVE w0 W N e w') : RetR w0 (some (W, N)) 0 e w' := by
  obtain ⟨ad, c, rfl, hv, _, hb⟩ := h
  exact ⟨_, _, _, _, rfl, ⟨rfl, rfl, ad, rfl, hv⟩, hb⟩
theorem RetErr.r {w0 w' : World} {k : Int} {e : Ending} (h : RetErr w0 k e w') : RetR w0 none k e w' := ⟨_, _, _, _, h.1, ⟨rfl, rfl, rfl, rfl⟩, h.2⟩
theorem same_rs {w : World} {V V' : Int} {A A' : Option Addr} {k k' c c' : Nat} {R : Option (Nat × Nat)} (h : Rs w V A k c R) (h' : Rs w V' A' k' c' R) : Calls Try.prog 16 #[.agg #[.int .i64 V, .slice A k c], .agg #[.int .i64 V', .slice A' k' c']] w (RetV w (.bool true)) := by
  cases R with
  | none =>
    obtain ⟨rfl, rfl, rfl, rfl⟩ := h
    obtain ⟨rfl, rfl, rfl, rfl⟩ := h'
    exact sam_none w
  | some r =>
    obtain ⟨rfl, rfl, ad, rfl, h1⟩ := h
    obtain ⟨rfl, rfl, ad', rfl, h2⟩ := h'
    exact sam_yes h1 h2 rfl
theorem RetVE.at_ {w w' : World} {W N W' N' : Nat} {e : Ending} (h : RetVE w W N e w') (h1 : W = W') (h2 : N = N') : RetVE w W' N' e w' := h1 ▸ h2 ▸ h
theorem refBits_k {w : World} {ad : Addr} {c W N k : Nat} (hk : lm W = k) (h : Vc w w.heap.size ad c W N) : Calls Try.prog 41 #[.agg #[.int .i64 W, .slice (some ad) k c]] w (RetBs w W N) := hk ▸ refBits_any h
theorem refOf_l (A : Option Addr) (c W : Nat) (l : List Bool) (w : World) (h : RB w w.heap.size A l) (hl : l.length = W) (h1 : 1 ≤ W) (h2 : W ≤ 128) :
    Calls Try.prog 35 #[.slice A W c] w (RetVec w W (nb l)) := by
  subst hl; exact refOf_any A c l w h h1 h2
set_option maxHeartbeats 400000 in
theorem refSlice_erra (V : Value) (W hi lo : Int) (w : World) (h0 : lo < 0) : Calls Try.prog 27 #[.agg #[.int .i64 W, V], .int .i64 hi, .int .i64 lo] w (RetErr w 5) := by
  have d1 : decide (lo < 0) = true := decide_eq_true h0
  go_enter Try.func27, Try.ntmps27
  go_wp2
  refine bodyPost_ret (v := .tuple #[.agg #[.int .i64 0, .slice none 0 0], .int .i64 5]) (by simp [results, Try.results27, go_sem]) rfl ⟨rfl, ?_⟩
  repeat (first | exact Below.refl _ _ | refine below_drewN ?_ _ | refine bal ?_ _)
set_option maxHeartbeats 400000 in
theorem refSlice_errb (V : Value) (W hi lo : Int) (w : World) (h0 : 0 ≤ lo) (h1 : hi < lo) : Calls Try.prog 27 #[.agg #[.int .i64 W, V], .int .i64 hi, .int .i64 lo] w (RetErr w 5) := by
  have d1 : decide (lo < 0) = false := decide_eq_false (by omega)
  have d2 : decide (hi < lo) = true := decide_eq_true h1
  go_enter Try.func27, Try.ntmps27
  go_wp2
  refine bodyPost_ret (v := .tuple #[.agg #[.int .i64 0, .slice none 0 0], .int .i64 5]) (by simp [results, Try.results27, go_sem]) rfl ⟨rfl, ?_⟩
  repeat (first | exact Below.refl _ _ | refine below_drewN ?_ _ | refine bal ?_ _)
set_option maxHeartbeats 400000 in
theorem refSlice_errc (V : Value) (W hi lo : Int) (w : World) (h0 : 0 ≤ lo) (h1 : lo ≤ hi) (h2 : W ≤ hi) : Calls Try.prog 27 #[.agg #[.int .i64 W, V], .int .i64 hi, .int .i64 lo] w (RetErr w 5) := by
  have d1 : decide (lo < 0) = false := decide_eq_false (by omega)
  have d2 : decide (hi < lo) = false := decide_eq_false (by omega)
  have d3 : decide (W ≤ hi) = true := decide_eq_true h2
  go_enter Try.func27, Try.ntmps27
  go_wp2
  refine bodyPost_ret (v := .tuple #[.agg #[.int .i64 0, .slice none 0 0], .int .i64 5]) (by simp [results, Try.results27, go_sem]) rfl ⟨rfl, ?_⟩
  repeat (first | exact Below.refl _ _ | refine below_drewN ?_ _ | refine bal ?_ _)
/-- Where a piece of a row of bits begins. -/
def cutB (A : Option Addr) (c k : Nat) : Option Addr := if c = k then A else A.map (·.add k)
theorem slice_lhB (A : Option Addr) (n c k m : Nat) (K H : Int) (hK : K = (k : Int)) (hH : H = (k : Int) + m) (h1 : k + m ≤ c) (w : World) :
    (Instr.slice 65 (.slice A n c) (some (.int .i64 K)) (some (.int .i64 H)) none).run Try.prog w = .ok (.slice (cutB A c k) m (c - k)) w := by
  subst hK hH
  have u65 : Try.prog.underlying 65 = some (.slice (Try.prog.elem 65)) := by kernel_rfl
  have e : Try.prog.elem 65 = 4 := by kernel_rfl
  have hs : (Try.prog.info? 4).map (·.size) = some 1 := by kernel_rfl
  obtain ⟨i, hi, hs⟩ := Option.map_eq_some_iff.1 hs
  rw [run_slice_lh w 65 A n c u65 .i64 .i64 k (k + m) (by omega) (by omega) (by omega), e]
  have e1 : ((k : Int) + m).toNat = k + m := by omega
  simp [sizeOf, typeInfo, hi, hs, Result.andThen, sliced, cutB, e1]
theorem RB.cut {w : World} {B : Nat} {A : Option Addr} {l : List Bool} (h : RB w B A l) {k c m : Nat} (hc : l.length ≤ c) : RB w B (cutB A c k) ((l.drop k).take m) := by
  intro i hi
  simp only [List.length_take, List.length_drop] at hi
  obtain ⟨ad, rfl, hb, hcell⟩ := h (k + i) (by omega)
  have e2 : (ad.add k).add i = ad.add (k + i) := by
    unfold Addr.add
    by_cases hi : i = 0 <;> by_cases hj : k = 0 <;> simp [hi, hj, Nat.add_assoc]
  refine ⟨ad.add k, by simp [cutB]; omega, by rw [blk_add]; exact hb, ?_⟩
  rw [e2, hcell]
  have e : ((l.drop k).take m).getD i false = l.getD (k + i) false := by
    simp only [List.getD_eq_getElem?_getD, List.getElem?_take, List.getElem?_drop]
    rw [if_pos (by omega)]
  rw [e]
set_option maxRecDepth 100000 in
set_option maxHeartbeats 1000000 in
theorem refSlice_ok {w : World} {ad : Addr} {c W N lo hi m : Nat} (h : Vc w w.heap.size ad c W N) (h0 : lo ≤ hi) (h1 : hi < W) (hm : (hi : Int) - (lo : Int) + 1 = (m : Int)) :
    Calls Try.prog 27 #[.agg #[.int .i64 W, .slice (some ad) (lm W) c], .int .i64 hi, .int .i64 lo] w (RetVE w m (N / 2 ^ lo % 2 ^ m)) := by
  have h2 := h.w2
  have hm1 : 1 ≤ m := by omega
  have hm2 : m ≤ 128 := by omega
  have hmm : hi + 1 = lo + m := by omega
  have HMM := Lib.hid hmm
  have hF0 := Lib.hid (Fr2.first w (.int .i64 W) (.slice (some ad) (lm W) c) (.int .i64 0) (.slice none 0 0) 24 24)
  have hV0 := Lib.hid (h.nx (Fr2.first w (.int .i64 W) (.slice (some ad) (lm W) c) (.int .i64 0) (.slice none 0 0) 24 24).bel)
  have d1 : decide ((lo : Int) < 0) = false := decide_eq_false (by omega)
  have d2 : decide ((hi : Int) < (lo : Int)) = false := decide_eq_false (by omega)
  have d2' : decide (hi < lo) = false := decide_eq_false (by omega)
  have d3 : decide ((W : Int) ≤ (hi : Int)) = false := decide_eq_false (by omega)
  have d3' : decide (W ≤ hi) = false := decide_eq_false (by omega)
  generalize hk : lm W = k at *
  have HK := Lib.hid hk
  clear h hk hm hmm
  go_enter Try.func27, Try.ntmps27
  go_wp2_with fail
  refine (refBits_k HK.out hV0.out).mono ?_
  rintro e w1 ⟨v, l, rfl, hl, hN, ho, hb1⟩
  have hF1 := hF0.out.nx hb1
  obtain ⟨A1, c1, rfl, hr, _⟩ := ho.val
  obtain ⟨_, n1, m1, _⟩ := ho.cap
  obtain ⟨⟨p1, p2⟩, ⟨p3, p4, p5, p6⟩, pz⟩ := hF1.parts
  obtain ⟨Z, hZ⟩ : ∃ Z, cutB A1 c1 lo = Z := ⟨_, rfl⟩
  have sl : ∀ wx, (Instr.slice 65 (.slice A1 l.length c1) (some (.int .i64 (lo : Int))) (some (.int .i64 ((hi : Int) + 1))) none).run Try.prog wx = .ok (.slice Z m (c1 - lo)) wx := fun wx => by
    rw [← hZ]
    exact slice_lhB A1 l.length c1 lo m lo ((hi : Int) + 1) rfl (by have := HMM.out; omega) (by have := HMM.out; omega) wx
  have hr2 := hr.cut (k := lo) (c := c1) (m := m) n1
  rw [hZ] at hr2
  have hl2 : ((l.drop lo).take m).length = m := by simp; have := HMM.out; omega
  have hn2 := nb_cut l lo m (by have := HMM.out; omega)
  rw [hN] at hn2
  have C2 := refOf_l Z (c1 - lo) m _ w1 hr2 hl2 hm1 hm2
  rw [hn2] at C2
  have HL := Lib.hid hl
  have hh : (hi : Int) + 1 ≤ 1000 := by omega
  clear hb1 ho hr n1 m1 hr2 hl2 hn2 hN hZ hl HMM
  generalize l.length = nl at *
  go_wp2_with fail
  refine C2.mono ?_
  rintro e w4 ⟨ad4, c4, rfl, hv4, hf4, hb4⟩
  have hF4 := hF1.nx hb4
  have hg4 : w.heap.size + 1 < ad4.block := by have := hF1.sz; omega
  clear p1 p2 p3 p4 p5 p6 pz C2 sl
  obtain ⟨⟨p1, p2⟩, ⟨p3, p4, p5, p6⟩, pz⟩ := hF4.parts
  go_wp2
  refine bodyPost_ret (v := .tuple #[.agg #[.int .i64 (m : Int), .slice (some ad4) (lm m) c4], .int .i64 0]) (by simp [results, Try.results27, go_sem, *]) rfl ?_
  exact RetVE.mk (W := m) hv4 hF4.bel (by omega) hg4
end Go.Proofs.Ytnnoflohekmnbaa
/- The reference's Ext and Ite. -/
namespace Go.Proofs.Ytnnoflohekmnbaa
open Go.RowKit
set_option maxHeartbeats 400000 in
theorem refExt_erra (V : Value) (W n : Int) (b : Bool) (w : World) (h0 : n < 0) : Calls Try.prog 29 #[.agg #[.int .i64 W, V], .int .i64 n, .bool b] w (RetErr w 5) := by
  have d1 : decide (n < 0) = true := decide_eq_true h0
  go_enter Try.func29, Try.ntmps29
  go_wp2
  refine bodyPost_ret (v := .tuple #[.agg #[.int .i64 0, .slice none 0 0], .int .i64 5]) (by simp [results, Try.results29, go_sem]) rfl ⟨rfl, ?_⟩
  repeat (first | exact Below.refl _ _ | refine below_drewN ?_ _ | refine bal ?_ _)
set_option maxHeartbeats 400000 in
theorem refExt_errb (V : Value) (W n : Int) (b : Bool) (w : World) (hW : 0 ≤ W) (hW2 : W ≤ 128) (h0 : 0 ≤ n) (h1 : 128 - W < n) : Calls Try.prog 29 #[.agg #[.int .i64 W, V], .int .i64 n, .bool b] w (RetErr w 5) := by
  have d1 : decide (n < 0) = false := decide_eq_false (by omega)
  have d2 : decide (128 - W < n) = true := decide_eq_true h1
  go_enter Try.func29, Try.ntmps29
  go_wp2
  refine bodyPost_ret (v := .tuple #[.agg #[.int .i64 0, .slice none 0 0], .int .i64 5]) (by simp [results, Try.results29, go_sem]) rfl ⟨rfl, ?_⟩
  repeat (first | exact Below.refl _ _ | refine below_drewN ?_ _ | refine bal ?_ _)
theorem rep_next (l : List Bool) (j : Nat) (b : Bool) : l ++ List.replicate j b ++ [b] = l ++ List.replicate (j + 1) b := by
  rw [List.append_assoc, List.replicate_succ']
set_option maxRecDepth 100000 in
set_option maxHeartbeats 2000000 in
theorem refExt_walk {w : World} {ad : Addr} {c W N : Nat} (h : Vc w w.heap.size ad c W N) (n : Nat) (hn : W + n ≤ 128) (sign top : Bool) (ht : (sign && N.testBit (W - 1)) = top) (Y : Nat) (hY : Hid (∀ l : List Bool, l.length = W → nb l = N → nb (l ++ List.replicate n top) = Y)) :
    Calls Try.prog 29 #[.agg #[.int .i64 W, .slice (some ad) (lm W) c], .int .i64 n, .bool sign] w (RetVE w (W + n) Y) := by
  have h1 := h.w1
  have h2 := h.w2
  have HT := Lib.hid ht
  have hF0 := Fr2.first w (.int .i64 W) (.slice (some ad) (lm W) c) (.int .i64 0) (.slice none 0 0) 24 24
  have hV0 := h.nx hF0.bel
  have d1 : decide ((n : Int) < 0) = false := decide_eq_false (by omega)
  have d2 : decide (128 - (W : Int) < (n : Int)) = false := decide_eq_false (by omega)
  generalize hk : lm W = k at *
  have HK := Lib.hid hk
  generalize hw0 : (w.alloc (.cells #[.int .i64 W, .slice (some ad) k c] 24)).alloc (.cells #[.int .i64 0, .slice none 0 0] 24) = w0 at *
  have HW0 := Lib.hid hw0
  obtain ⟨⟨p1, p2⟩, ⟨p3, p4, p5, p6⟩, pz⟩ := hF0.parts
  have HF0 := Lib.hid hF0
  have HV0 := Lib.hid hV0
  clear h hk ht hw0 hF0 hV0 p1 p2 p3 p4 p5 p6 pz
  go_enter Try.func29, Try.ntmps29
  go_wp2_with fail
  rw [HW0.out]
  obtain ⟨⟨p1, p2⟩, ⟨p3, p4, p5, p6⟩, pz⟩ := HF0.out.parts
  refine (refBits_k HK.out HV0.out).mono ?_
  rintro e w1 ⟨v, l, rfl, hl, hN, ho, hb1⟩
  have hF1 := HF0.out.nx hb1
  obtain ⟨A1, c1, rfl, hr, _⟩ := ho.val
  obtain ⟨ada, rfl, hba, hca⟩ := hr (W - 1) (by omega)
  rw [← nb_bit, hN] at hca
  obtain ⟨tt, htt⟩ : ∃ tt, N.testBit (W - 1) = tt := ⟨_, rfl⟩
  rw [htt] at hca
  obtain ⟨u, hu⟩ : ∃ u, W - 1 = u := ⟨_, rfl⟩
  rw [hu] at hca
  have hul : u < l.length := by omega
  have hul' : (u : Int) < (l.length : Int) := by omega
  have huw : (W : Int) - 1 = (u : Int) := by omega
  have HTT : Hid ((sign && tt) = top) := Lib.hid (by rw [← htt]; exact HT.out)
  have HO := Lib.hid ho
  have HLN := Lib.hid (And.intro hl hN)
  have HB1 := Lib.hid hb1
  have hl8 : l.length ≤ 128 := by omega
  clear p1 p2 p3 p4 p5 p6 pz hr ho hN htt hu HT hb1
  obtain ⟨⟨p1, p2⟩, ⟨p3, p4, p5, p6⟩, pz⟩ := hF1.parts
  clear hF1 hl
  cases sign
  rotate_left
  · obtain rfl : tt = top := by simpa using HTT.out
    clear HTT
    go_wp2
    clear hca hul hul' huw
    go_loopw [8, 10] (fun v i wr => ∃ (j : Nat), j ≤ n ∧ i = .int .i64 j ∧ OwnB wr w0.heap.size v (l ++ List.replicate j tt) ∧ Below w0.heap.size w0 wr) (fun _ i _ => n - (intOf i).toNat)
    case atStart => exact ⟨0, Nat.zero_le _, rfl, by rw [List.replicate_zero, List.append_nil]; exact HO.out, HB1.out⟩
    case round =>
      obtain ⟨j, hj, rfl, hown, hb⟩ := hrel
      by_cases hlt : j < n
      · have hlt' : (j : Int) < (n : Int) := by omega
        have HN := Lib.hid (rep_next l j tt)
        have hl5 : (l ++ List.replicate j tt).length ≤ 100000 := by have := HLN.out.1; simp; omega
        generalize l ++ List.replicate j tt = o at *
        have HB := Lib.hid hb
        have hsz : w0.heap.size ≤ wr.heap.size := hb.size
        clear hb
        go_wp2_with (first
          | (at_builtin; refine wpB1 rfl (.tmp 37) (.tmp 39) rfl _ o rfl hown tt rfl HB.out hl5 ?_))
        intro v' w3 hown' hb'
        go_wp2
        go_roundw
        case rel => exact ⟨j + 1, by omega, by go_num, by rw [← HN.out]; exact hown', hb'⟩
        case measure => simp [intOf]; omega
      · obtain rfl : j = n := by omega
        obtain ⟨A2, c2, rfl, hr2, _⟩ := hown.val
        have hll : (l ++ List.replicate j tt).length = W + j := by have := HLN.out.1; simp; omega
        have hnn := hY.out l HLN.out.1 HLN.out.2
        have C2 := refOf_l A2 c2 (W + j) _ wr hr2 hll (by omega) hn
        rw [hnn] at C2
        have hF2 := HF0.out.nx hb
        have HLL := Lib.hid hll
        rw [hll]
        clear hown hr2 hnn hb hll hlt
        obtain ⟨⟨q1, q2⟩, ⟨q3, q4, q5, q6⟩, qz⟩ := hF2.parts
        go_wp2_with fail
        refine C2.mono ?_
        rintro e w4 ⟨ad4, c4, rfl, hv4, hf4, hb4⟩
        have hF4 := hF2.nx hb4
        have hg4 : w.heap.size + 1 < ad4.block := by have := hF2.sz; omega
        clear q1 q2 q3 q4 q5 q6 qz C2
        obtain ⟨⟨q1, q2⟩, ⟨q3, q4, q5, q6⟩, qz⟩ := hF4.parts
        go_wp2
        refine bodyPost_ret (v := .tuple #[.agg #[.int .i64 ((W + j : Nat) : Int), .slice (some ad4) (lm (W + j)) c4], .int .i64 0]) (by simp [results, Try.results29, go_sem, *]) rfl ?_
        exact RetVE.mk (W := W + j) hv4 hF4.bel (by omega) hg4
  · obtain rfl : false = top := by simpa using HTT.out
    clear HTT
    go_wp2
    clear hca hul hul' huw
    go_loopw [8, 10] (fun v i wr => ∃ (j : Nat), j ≤ n ∧ i = .int .i64 j ∧ OwnB wr w0.heap.size v (l ++ List.replicate j false) ∧ Below w0.heap.size w0 wr) (fun _ i _ => n - (intOf i).toNat)
    case atStart => exact ⟨0, Nat.zero_le _, rfl, by rw [List.replicate_zero, List.append_nil]; exact HO.out, HB1.out⟩
    case round =>
      obtain ⟨j, hj, rfl, hown, hb⟩ := hrel
      by_cases hlt : j < n
      · have hlt' : (j : Int) < (n : Int) := by omega
        have HN := Lib.hid (rep_next l j false)
        have hl5 : (l ++ List.replicate j false).length ≤ 100000 := by have := HLN.out.1; simp; omega
        generalize l ++ List.replicate j false = o at *
        have HB := Lib.hid hb
        have hsz : w0.heap.size ≤ wr.heap.size := hb.size
        clear hb
        go_wp2_with (first
          | (at_builtin; refine wpB1 rfl (.tmp 37) (.tmp 39) rfl _ o rfl hown false rfl HB.out hl5 ?_))
        intro v' w3 hown' hb'
        go_wp2
        go_roundw
        case rel => exact ⟨j + 1, by omega, by go_num, by rw [← HN.out]; exact hown', hb'⟩
        case measure => simp [intOf]; omega
      · obtain rfl : j = n := by omega
        obtain ⟨A2, c2, rfl, hr2, _⟩ := hown.val
        have hll : (l ++ List.replicate j false).length = W + j := by have := HLN.out.1; simp; omega
        have hnn := hY.out l HLN.out.1 HLN.out.2
        have C2 := refOf_l A2 c2 (W + j) _ wr hr2 hll (by omega) hn
        rw [hnn] at C2
        have hF2 := HF0.out.nx hb
        have HLL := Lib.hid hll
        rw [hll]
        clear hown hr2 hnn hb hll hlt
        obtain ⟨⟨q1, q2⟩, ⟨q3, q4, q5, q6⟩, qz⟩ := hF2.parts
        go_wp2_with fail
        refine C2.mono ?_
        rintro e w4 ⟨ad4, c4, rfl, hv4, hf4, hb4⟩
        have hF4 := hF2.nx hb4
        have hg4 : w.heap.size + 1 < ad4.block := by have := hF2.sz; omega
        clear q1 q2 q3 q4 q5 q6 qz C2
        obtain ⟨⟨q1, q2⟩, ⟨q3, q4, q5, q6⟩, qz⟩ := hF4.parts
        go_wp2
        refine bodyPost_ret (v := .tuple #[.agg #[.int .i64 ((W + j : Nat) : Int), .slice (some ad4) (lm (W + j)) c4], .int .i64 0]) (by simp [results, Try.results29, go_sem, *]) rfl ?_
        exact RetVE.mk (W := W + j) hv4 hF4.bel (by omega) hg4
end Go.Proofs.Ytnnoflohekmnbaa
/- The walk of VecCuts. -/
namespace Go.Proofs.Ytnnoflohekmnbaa
open Go.RowKit
/-- What a call told, in a variable of its own. -/
structure Vx (wr : World) (g : Nat) (V : Int) (A : Option Addr) (k c : Nat) (R : Option (Nat × Nat)) : Prop where
  d : Duo wr g (.int .i64 V) (.slice A k c)
  v : Rs wr V A k c R
theorem Vx.nx {wr w1 : World} {g : Nat} {V : Int} {A : Option Addr} {k c : Nat} {R : Option (Nat × Nat)} (h : Vx wr g V A k c R) (hb : Below wr.heap.size wr w1) : Vx w1 g V A k c R :=
  ⟨h.d.below hb (World.block_lt_of_cell? wr _ h.d.1), h.v.nx hb⟩
theorem Vx.new {w1 : World} {V : Int} {A : Option Addr} {k c : Nat} {R : Option (Nat × Nat)} (h : Rs w1 V A k c R) : Vx (w1.alloc (.cells #[.int .i64 V, .slice A k c] 24)) w1.heap.size V A k c R :=
  ⟨by refine ⟨?_, ?_, ?_, ?_⟩ <;> go_simp, h.nx (bal (Below.refl _ _) _)⟩
theorem Vx.parts {wr : World} {g : Nat} {V : Int} {A : Option Addr} {k c : Nat} {R : Option (Nat × Nat)} (h : Vx wr g V A k c R) : wr.cell? ⟨g, 0, none⟩ = some (.int .i64 V) ∧ wr.cell? ⟨g, 1, none⟩ = some (.slice A k c) ∧ g < wr.heap.size :=
  ⟨h.d.1, h.d.2.1, World.block_lt_of_cell? wr _ h.d.1⟩
/-- Three numbers in a variable. -/
structure Tri (wr : World) (g : Nat) (x y z : Int) : Prop where
  a : wr.cell? ⟨g, 0, none⟩ = some (.int .i64 x)
  b : wr.cell? ⟨g, 1, none⟩ = some (.int .i64 y)
  c : wr.cell? ⟨g, 2, none⟩ = some (.int .i64 z)
theorem Tri.nx {wr w1 : World} {g : Nat} {x y z : Int} (h : Tri wr g x y z) (hb : Below wr.heap.size wr w1) : Tri w1 g x y z := by
  have hg := World.block_lt_of_cell? wr _ h.a
  exact ⟨(hb.cell (p := ⟨g, 0, none⟩) hg).trans h.a, (hb.cell (p := ⟨g, 1, none⟩) hg).trans h.b, (hb.cell (p := ⟨g, 2, none⟩) hg).trans h.c⟩
theorem Tri.parts {wr : World} {g : Nat} {x y z : Int} (h : Tri wr g x y z) : wr.cell? ⟨g, 0, none⟩ = some (.int .i64 x) ∧ wr.cell? ⟨g, 1, none⟩ = some (.int .i64 y) ∧ wr.cell? ⟨g, 2, none⟩ = some (.int .i64 z) ∧ g < wr.heap.size := ⟨h.a, h.b, h.c, World.block_lt_of_cell? wr _ h.a⟩
theorem cuts_boxes {w : World} {ada adb adc : Addr} {ca cb cc W V U N K M : Nat} (ha : Vc w w.heap.size ada ca W N) (hb : Vc w w.heap.size adb cb V K) (hc : Vc w w.heap.size adc cc U M) (x0 x1 x2 : Int) (sg : Bool) :
    Va (((((w.alloc (.cells #[.int .i64 W, .slice (some ada) (lm W) ca, .int .i64 V, .slice (some adb) (lm V) cb, .int .i64 U, .slice (some adc) (lm U) cc, .int .i64 x0, .int .i64 x1, .int .i64 x2, .bool sg] 45)).alloc (.cells #[.int .i64 W, .slice (some ada) (lm W) ca] 24)).alloc (.cells #[.int .i64 V, .slice (some adb) (lm V) cb] 24)).alloc (.cells #[.int .i64 U, .slice (some adc) (lm U) cc] 24)).alloc (.cells #[.int .i64 x0, .int .i64 x1, .int .i64 x2] 43)) (w.heap.size + 1) ada ca (lm W) W N (.int .i64 W) ∧ Va (((((w.alloc (.cells #[.int .i64 W, .slice (some ada) (lm W) ca, .int .i64 V, .slice (some adb) (lm V) cb, .int .i64 U, .slice (some adc) (lm U) cc, .int .i64 x0, .int .i64 x1, .int .i64 x2, .bool sg] 45)).alloc (.cells #[.int .i64 W, .slice (some ada) (lm W) ca] 24)).alloc (.cells #[.int .i64 V, .slice (some adb) (lm V) cb] 24)).alloc (.cells #[.int .i64 U, .slice (some adc) (lm U) cc] 24)).alloc (.cells #[.int .i64 x0, .int .i64 x1, .int .i64 x2] 43)) (w.heap.size + 2) adb cb (lm V) V K (.int .i64 V) ∧ Va (((((w.alloc (.cells #[.int .i64 W, .slice (some ada) (lm W) ca, .int .i64 V, .slice (some adb) (lm V) cb, .int .i64 U, .slice (some adc) (lm U) cc, .int .i64 x0, .int .i64 x1, .int .i64 x2, .bool sg] 45)).alloc (.cells #[.int .i64 W, .slice (some ada) (lm W) ca] 24)).alloc (.cells #[.int .i64 V, .slice (some adb) (lm V) cb] 24)).alloc (.cells #[.int .i64 U, .slice (some adc) (lm U) cc] 24)).alloc (.cells #[.int .i64 x0, .int .i64 x1, .int .i64 x2] 43)) (w.heap.size + 3) adc cc (lm U) U M (.int .i64 U) ∧ Tri (((((w.alloc (.cells #[.int .i64 W, .slice (some ada) (lm W) ca, .int .i64 V, .slice (some adb) (lm V) cb, .int .i64 U, .slice (some adc) (lm U) cc, .int .i64 x0, .int .i64 x1, .int .i64 x2, .bool sg] 45)).alloc (.cells #[.int .i64 W, .slice (some ada) (lm W) ca] 24)).alloc (.cells #[.int .i64 V, .slice (some adb) (lm V) cb] 24)).alloc (.cells #[.int .i64 U, .slice (some adc) (lm U) cc] 24)).alloc (.cells #[.int .i64 x0, .int .i64 x1, .int .i64 x2] 43)) (w.heap.size + 4) x0 x1 x2 ∧ Below w.heap.size w (((((w.alloc (.cells #[.int .i64 W, .slice (some ada) (lm W) ca, .int .i64 V, .slice (some adb) (lm V) cb, .int .i64 U, .slice (some adc) (lm U) cc, .int .i64 x0, .int .i64 x1, .int .i64 x2, .bool sg] 45)).alloc (.cells #[.int .i64 W, .slice (some ada) (lm W) ca] 24)).alloc (.cells #[.int .i64 V, .slice (some adb) (lm V) cb] 24)).alloc (.cells #[.int .i64 U, .slice (some adc) (lm U) cc] 24)).alloc (.cells #[.int .i64 x0, .int .i64 x1, .int .i64 x2] 43)) := by
  have B1 := bal (Below.refl w.heap.size w) (.cells #[.int .i64 W, .slice (some ada) (lm W) ca, .int .i64 V, .slice (some adb) (lm V) cb, .int .i64 U, .slice (some adc) (lm U) cc, .int .i64 x0, .int .i64 x1, .int .i64 x2, .bool sg] 45)
  have B2 := bal B1 (.cells #[.int .i64 W, .slice (some ada) (lm W) ca] 24)
  have B3 := bal B2 (.cells #[.int .i64 V, .slice (some adb) (lm V) cb] 24)
  have B4 := bal B3 (.cells #[.int .i64 U, .slice (some adc) (lm U) cc] 24)
  have B5 := bal B4 (.cells #[.int .i64 x0, .int .i64 x1, .int .i64 x2] 43)
  have v1 := Va.new (ha.nx B1) (lm W) (.int .i64 W)
  have v2 := Va.new (hb.nx B2) (lm V) (.int .i64 V)
  have v3 := Va.new (hc.nx B3) (lm U) (.int .i64 U)
  have t1 := ((v1.nx (bal (Below.refl _ _) (.cells #[.int .i64 V, .slice (some adb) (lm V) cb] 24))).nx (bal (Below.refl _ _) (.cells #[.int .i64 U, .slice (some adc) (lm U) cc] 24))).nx (bal (Below.refl _ _) (.cells #[.int .i64 x0, .int .i64 x1, .int .i64 x2] 43))
  have t2 := (v2.nx (bal (Below.refl _ _) (.cells #[.int .i64 U, .slice (some adc) (lm U) cc] 24))).nx (bal (Below.refl _ _) (.cells #[.int .i64 x0, .int .i64 x1, .int .i64 x2] 43))
  have t3 := v3.nx (bal (Below.refl _ _) (.cells #[.int .i64 x0, .int .i64 x1, .int .i64 x2] 43))
  refine ⟨by simpa using t1, by simpa using t2, by simpa using t3, ?_, B5⟩
  constructor <;> go_simp
set_option maxRecDepth 100000 in
set_option maxHeartbeats 16000000 in
theorem cuts_main {w : World} {ada adb adc : Addr} {ca cb cc W V U N K M : Nat} (ha : Vc w w.heap.size ada ca W N) (hb : Vc w w.heap.size adb cb V K) (hc : Vc w w.heap.size adc cc U M) (x0 x1 x2 : Int) (sg : Bool) (R1 R2 R3 : Option (Nat × Nat)) (e1 e2 e3 : Int)
    (HS : Hid (∀ wx, Vc wx wx.heap.size ada ca W N → Calls Try.prog 26 #[.agg #[.int .i64 W, .slice (some ada) (lm W) ca], .int .i64 x0, .int .i64 x1] wx (RetR wx R1 e1) ∧ Calls Try.prog 27 #[.agg #[.int .i64 W, .slice (some ada) (lm W) ca], .int .i64 x0, .int .i64 x1] wx (RetR wx R1 e1)))
    (HE : Hid (∀ wx, Vc wx wx.heap.size ada ca W N → Calls Try.prog 28 #[.agg #[.int .i64 W, .slice (some ada) (lm W) ca], .int .i64 x2, .bool sg] wx (RetR wx R2 e2) ∧ Calls Try.prog 29 #[.agg #[.int .i64 W, .slice (some ada) (lm W) ca], .int .i64 x2, .bool sg] wx (RetR wx R2 e2)))
    (HI : Hid (∀ wx, Vc wx wx.heap.size adc cc U M → Vc wx wx.heap.size ada ca W N → Vc wx wx.heap.size adb cb V K → Calls Try.prog 30 #[.agg #[.int .i64 U, .slice (some adc) (lm U) cc], .agg #[.int .i64 W, .slice (some ada) (lm W) ca], .agg #[.int .i64 V, .slice (some adb) (lm V) cb]] wx (RetR wx R3 e3) ∧ Calls Try.prog 31 #[.agg #[.int .i64 U, .slice (some adc) (lm U) cc], .agg #[.int .i64 W, .slice (some ada) (lm W) ca], .agg #[.int .i64 V, .slice (some adb) (lm V) cb]] wx (RetR wx R3 e3))) :
    Calls Try.prog 5 #[.agg #[.int .i64 W, .slice (some ada) (lm W) ca, .int .i64 V, .slice (some adb) (lm V) cb, .int .i64 U, .slice (some adc) (lm U) cc, .int .i64 x0, .int .i64 x1, .int .i64 x2, .bool sg]] w (RetV w (.bool true)) := by
  have q1 : (e1 == e1) = true := by simp
  have q2 : (e2 == e2) = true := by simp
  have q3 : (e3 == e3) = true := by simp
  go_enter Try.func5, Try.ntmps5
  go_wp2_with fail
  obtain ⟨h_a, h_b, h_c, h_x, hB⟩ := cuts_boxes ha hb hc x0 x1 x2 sg
  clear ha hb hc
  generalize (((((w.alloc (.cells #[.int .i64 W, .slice (some ada) (lm W) ca, .int .i64 V, .slice (some adb) (lm V) cb, .int .i64 U, .slice (some adc) (lm U) cc, .int .i64 x0, .int .i64 x1, .int .i64 x2, .bool sg] 45)).alloc (.cells #[.int .i64 W, .slice (some ada) (lm W) ca] 24)).alloc (.cells #[.int .i64 V, .slice (some adb) (lm V) cb] 24)).alloc (.cells #[.int .i64 U, .slice (some adc) (lm U) cc] 24)).alloc (.cells #[.int .i64 x0, .int .i64 x1, .int .i64 x2] 43)) = w0 at *
  go_wp2_with fail
  refine (shown_any _).mono ?_
  rintro e w1 ⟨rfl, hb1⟩
  replace h_a := h_a.nx hb1
  replace h_b := h_b.nx hb1
  replace h_c := h_c.nx hb1
  replace h_x := h_x.nx hb1
  replace hB := bnx hB hb1
  obtain ⟨p_a1, p_a2, p_a3⟩ := h_a.parts
  obtain ⟨p_b1, p_b2, p_b3⟩ := h_b.parts
  obtain ⟨p_c1, p_c2, p_c3⟩ := h_c.parts
  obtain ⟨p_x1, p_x2, p_x3, p_x4⟩ := h_x.parts
  clear hb1
  go_wp2_with fail
  refine (refRight_vc h_a.v).mono ?_
  rintro e w2 ⟨rfl, hb2⟩
  clear p_a1 p_a2 p_a3 p_b1 p_b2 p_b3 p_c1 p_c2 p_c3 p_x1 p_x2 p_x3 p_x4
  replace h_a := h_a.nx hb2
  replace h_b := h_b.nx hb2
  replace h_c := h_c.nx hb2
  replace h_x := h_x.nx hb2
  replace hB := bnx hB hb2
  obtain ⟨p_a1, p_a2, p_a3⟩ := h_a.parts
  obtain ⟨p_b1, p_b2, p_b3⟩ := h_b.parts
  obtain ⟨p_c1, p_c2, p_c3⟩ := h_c.parts
  obtain ⟨p_x1, p_x2, p_x3, p_x4⟩ := h_x.parts
  clear hb2
  go_wp2_with fail
  refine (refRight_vc h_b.v).mono ?_
  rintro e w3 ⟨rfl, hb3⟩
  clear p_a1 p_a2 p_a3 p_b1 p_b2 p_b3 p_c1 p_c2 p_c3 p_x1 p_x2 p_x3 p_x4
  replace h_a := h_a.nx hb3
  replace h_b := h_b.nx hb3
  replace h_c := h_c.nx hb3
  replace h_x := h_x.nx hb3
  replace hB := bnx hB hb3
  obtain ⟨p_a1, p_a2, p_a3⟩ := h_a.parts
  obtain ⟨p_b1, p_b2, p_b3⟩ := h_b.parts
  obtain ⟨p_c1, p_c2, p_c3⟩ := h_c.parts
  obtain ⟨p_x1, p_x2, p_x3, p_x4⟩ := h_x.parts
  clear hb3
  go_wp2_with fail
  refine (refRight_vc h_c.v).mono ?_
  rintro e w4 ⟨rfl, hb4⟩
  clear p_a1 p_a2 p_a3 p_b1 p_b2 p_b3 p_c1 p_c2 p_c3 p_x1 p_x2 p_x3 p_x4
  replace h_a := h_a.nx hb4
  replace h_b := h_b.nx hb4
  replace h_c := h_c.nx hb4
  replace h_x := h_x.nx hb4
  replace hB := bnx hB hb4
  obtain ⟨p_a1, p_a2, p_a3⟩ := h_a.parts
  obtain ⟨p_b1, p_b2, p_b3⟩ := h_b.parts
  obtain ⟨p_c1, p_c2, p_c3⟩ := h_c.parts
  obtain ⟨p_x1, p_x2, p_x3, p_x4⟩ := h_x.parts
  clear hb4
  go_wp2_with fail
  refine ((HS.out _ h_a.v).1).mono ?_
  rintro e w5 ⟨V5, A5, k5, c5, rfl, rs5, hb5⟩
  clear p_a1 p_a2 p_a3 p_b1 p_b2 p_b3 p_c1 p_c2 p_c3 p_x1 p_x2 p_x3 p_x4
  replace h_a := h_a.nx hb5
  replace h_b := h_b.nx hb5
  replace h_c := h_c.nx hb5
  replace h_x := h_x.nx hb5
  replace hB := bnx hB hb5
  obtain ⟨p_a1, p_a2, p_a3⟩ := h_a.parts
  obtain ⟨p_b1, p_b2, p_b3⟩ := h_b.parts
  obtain ⟨p_c1, p_c2, p_c3⟩ := h_c.parts
  obtain ⟨p_x1, p_x2, p_x3, p_x4⟩ := h_x.parts
  clear hb5
  have h_s := Vx.new rs5
  replace h_a := h_a.nx (bal (Below.refl _ _) (.cells #[.int .i64 V5, .slice A5 k5 c5] 24))
  replace h_b := h_b.nx (bal (Below.refl _ _) (.cells #[.int .i64 V5, .slice A5 k5 c5] 24))
  replace h_c := h_c.nx (bal (Below.refl _ _) (.cells #[.int .i64 V5, .slice A5 k5 c5] 24))
  replace h_x := h_x.nx (bal (Below.refl _ _) (.cells #[.int .i64 V5, .slice A5 k5 c5] 24))
  replace hB := bal hB (.cells #[.int .i64 V5, .slice A5 k5 c5] 24)
  clear rs5
  go_wp2_with fail
  generalize w5.alloc (.cells #[.int .i64 V5, .slice A5 k5 c5] 24) = w5m at *
  generalize w5.heap.size = gw5 at *
  refine ((HS.out _ h_a.v).2).mono ?_
  rintro e w6 ⟨V6, A6, k6, c6, rfl, rs6, hb6⟩
  clear p_a1 p_a2 p_a3 p_b1 p_b2 p_b3 p_c1 p_c2 p_c3 p_x1 p_x2 p_x3 p_x4
  replace h_a := h_a.nx hb6
  replace h_b := h_b.nx hb6
  replace h_c := h_c.nx hb6
  replace h_x := h_x.nx hb6
  replace h_s := h_s.nx hb6
  replace hB := bnx hB hb6
  obtain ⟨p_a1, p_a2, p_a3⟩ := h_a.parts
  obtain ⟨p_b1, p_b2, p_b3⟩ := h_b.parts
  obtain ⟨p_c1, p_c2, p_c3⟩ := h_c.parts
  obtain ⟨p_x1, p_x2, p_x3, p_x4⟩ := h_x.parts
  obtain ⟨p_s1, p_s2, p_s3⟩ := h_s.parts
  clear hb6
  have h_t := Vx.new rs6
  replace h_a := h_a.nx (bal (Below.refl _ _) (.cells #[.int .i64 V6, .slice A6 k6 c6] 24))
  replace h_b := h_b.nx (bal (Below.refl _ _) (.cells #[.int .i64 V6, .slice A6 k6 c6] 24))
  replace h_c := h_c.nx (bal (Below.refl _ _) (.cells #[.int .i64 V6, .slice A6 k6 c6] 24))
  replace h_x := h_x.nx (bal (Below.refl _ _) (.cells #[.int .i64 V6, .slice A6 k6 c6] 24))
  replace h_s := h_s.nx (bal (Below.refl _ _) (.cells #[.int .i64 V6, .slice A6 k6 c6] 24))
  replace hB := bal hB (.cells #[.int .i64 V6, .slice A6 k6 c6] 24)
  clear rs6
  go_wp2_with fail
  generalize w6.alloc (.cells #[.int .i64 V6, .slice A6 k6 c6] 24) = w6m at *
  generalize w6.heap.size = gw6 at *
  refine ((HE.out _ h_a.v).1).mono ?_
  rintro e w7 ⟨V7, A7, k7, c7, rfl, rs7, hb7⟩
  clear p_a1 p_a2 p_a3 p_b1 p_b2 p_b3 p_c1 p_c2 p_c3 p_x1 p_x2 p_x3 p_x4 p_s1 p_s2 p_s3
  replace h_a := h_a.nx hb7
  replace h_b := h_b.nx hb7
  replace h_c := h_c.nx hb7
  replace h_x := h_x.nx hb7
  replace h_s := h_s.nx hb7
  replace h_t := h_t.nx hb7
  replace hB := bnx hB hb7
  obtain ⟨p_a1, p_a2, p_a3⟩ := h_a.parts
  obtain ⟨p_b1, p_b2, p_b3⟩ := h_b.parts
  obtain ⟨p_c1, p_c2, p_c3⟩ := h_c.parts
  obtain ⟨p_x1, p_x2, p_x3, p_x4⟩ := h_x.parts
  obtain ⟨p_s1, p_s2, p_s3⟩ := h_s.parts
  obtain ⟨p_t1, p_t2, p_t3⟩ := h_t.parts
  clear hb7
  have h_p := Vx.new rs7
  replace h_a := h_a.nx (bal (Below.refl _ _) (.cells #[.int .i64 V7, .slice A7 k7 c7] 24))
  replace h_b := h_b.nx (bal (Below.refl _ _) (.cells #[.int .i64 V7, .slice A7 k7 c7] 24))
  replace h_c := h_c.nx (bal (Below.refl _ _) (.cells #[.int .i64 V7, .slice A7 k7 c7] 24))
  replace h_x := h_x.nx (bal (Below.refl _ _) (.cells #[.int .i64 V7, .slice A7 k7 c7] 24))
  replace h_s := h_s.nx (bal (Below.refl _ _) (.cells #[.int .i64 V7, .slice A7 k7 c7] 24))
  replace h_t := h_t.nx (bal (Below.refl _ _) (.cells #[.int .i64 V7, .slice A7 k7 c7] 24))
  replace hB := bal hB (.cells #[.int .i64 V7, .slice A7 k7 c7] 24)
  clear rs7
  go_wp2_with fail
  generalize w7.alloc (.cells #[.int .i64 V7, .slice A7 k7 c7] 24) = w7m at *
  generalize w7.heap.size = gw7 at *
  refine ((HE.out _ h_a.v).2).mono ?_
  rintro e w8 ⟨V8, A8, k8, c8, rfl, rs8, hb8⟩
  clear p_a1 p_a2 p_a3 p_b1 p_b2 p_b3 p_c1 p_c2 p_c3 p_x1 p_x2 p_x3 p_x4 p_s1 p_s2 p_s3 p_t1 p_t2 p_t3
  replace h_a := h_a.nx hb8
  replace h_b := h_b.nx hb8
  replace h_c := h_c.nx hb8
  replace h_x := h_x.nx hb8
  replace h_s := h_s.nx hb8
  replace h_t := h_t.nx hb8
  replace h_p := h_p.nx hb8
  replace hB := bnx hB hb8
  obtain ⟨p_a1, p_a2, p_a3⟩ := h_a.parts
  obtain ⟨p_b1, p_b2, p_b3⟩ := h_b.parts
  obtain ⟨p_c1, p_c2, p_c3⟩ := h_c.parts
  obtain ⟨p_x1, p_x2, p_x3, p_x4⟩ := h_x.parts
  obtain ⟨p_s1, p_s2, p_s3⟩ := h_s.parts
  obtain ⟨p_t1, p_t2, p_t3⟩ := h_t.parts
  obtain ⟨p_p1, p_p2, p_p3⟩ := h_p.parts
  clear hb8
  have h_q := Vx.new rs8
  replace h_a := h_a.nx (bal (Below.refl _ _) (.cells #[.int .i64 V8, .slice A8 k8 c8] 24))
  replace h_b := h_b.nx (bal (Below.refl _ _) (.cells #[.int .i64 V8, .slice A8 k8 c8] 24))
  replace h_c := h_c.nx (bal (Below.refl _ _) (.cells #[.int .i64 V8, .slice A8 k8 c8] 24))
  replace h_x := h_x.nx (bal (Below.refl _ _) (.cells #[.int .i64 V8, .slice A8 k8 c8] 24))
  replace h_s := h_s.nx (bal (Below.refl _ _) (.cells #[.int .i64 V8, .slice A8 k8 c8] 24))
  replace h_t := h_t.nx (bal (Below.refl _ _) (.cells #[.int .i64 V8, .slice A8 k8 c8] 24))
  replace h_p := h_p.nx (bal (Below.refl _ _) (.cells #[.int .i64 V8, .slice A8 k8 c8] 24))
  replace hB := bal hB (.cells #[.int .i64 V8, .slice A8 k8 c8] 24)
  clear rs8
  go_wp2_with fail
  generalize w8.alloc (.cells #[.int .i64 V8, .slice A8 k8 c8] 24) = w8m at *
  generalize w8.heap.size = gw8 at *
  refine ((HI.out _ h_c.v h_a.v h_b.v).1).mono ?_
  rintro e w9 ⟨V9, A9, k9, c9, rfl, rs9, hb9⟩
  clear p_a1 p_a2 p_a3 p_b1 p_b2 p_b3 p_c1 p_c2 p_c3 p_x1 p_x2 p_x3 p_x4 p_s1 p_s2 p_s3 p_t1 p_t2 p_t3 p_p1 p_p2 p_p3
  replace h_a := h_a.nx hb9
  replace h_b := h_b.nx hb9
  replace h_c := h_c.nx hb9
  replace h_x := h_x.nx hb9
  replace h_s := h_s.nx hb9
  replace h_t := h_t.nx hb9
  replace h_p := h_p.nx hb9
  replace h_q := h_q.nx hb9
  replace hB := bnx hB hb9
  obtain ⟨p_a1, p_a2, p_a3⟩ := h_a.parts
  obtain ⟨p_b1, p_b2, p_b3⟩ := h_b.parts
  obtain ⟨p_c1, p_c2, p_c3⟩ := h_c.parts
  obtain ⟨p_x1, p_x2, p_x3, p_x4⟩ := h_x.parts
  obtain ⟨p_s1, p_s2, p_s3⟩ := h_s.parts
  obtain ⟨p_t1, p_t2, p_t3⟩ := h_t.parts
  obtain ⟨p_p1, p_p2, p_p3⟩ := h_p.parts
  obtain ⟨p_q1, p_q2, p_q3⟩ := h_q.parts
  clear hb9
  have h_y := Vx.new rs9
  replace h_a := h_a.nx (bal (Below.refl _ _) (.cells #[.int .i64 V9, .slice A9 k9 c9] 24))
  replace h_b := h_b.nx (bal (Below.refl _ _) (.cells #[.int .i64 V9, .slice A9 k9 c9] 24))
  replace h_c := h_c.nx (bal (Below.refl _ _) (.cells #[.int .i64 V9, .slice A9 k9 c9] 24))
  replace h_x := h_x.nx (bal (Below.refl _ _) (.cells #[.int .i64 V9, .slice A9 k9 c9] 24))
  replace h_s := h_s.nx (bal (Below.refl _ _) (.cells #[.int .i64 V9, .slice A9 k9 c9] 24))
  replace h_t := h_t.nx (bal (Below.refl _ _) (.cells #[.int .i64 V9, .slice A9 k9 c9] 24))
  replace h_p := h_p.nx (bal (Below.refl _ _) (.cells #[.int .i64 V9, .slice A9 k9 c9] 24))
  replace h_q := h_q.nx (bal (Below.refl _ _) (.cells #[.int .i64 V9, .slice A9 k9 c9] 24))
  replace hB := bal hB (.cells #[.int .i64 V9, .slice A9 k9 c9] 24)
  clear rs9
  go_wp2_with fail
  generalize w9.alloc (.cells #[.int .i64 V9, .slice A9 k9 c9] 24) = w9m at *
  generalize w9.heap.size = gw9 at *
  refine ((HI.out _ h_c.v h_a.v h_b.v).2).mono ?_
  rintro e w10 ⟨V10, A10, k10, c10, rfl, rs10, hb10⟩
  clear p_a1 p_a2 p_a3 p_b1 p_b2 p_b3 p_c1 p_c2 p_c3 p_x1 p_x2 p_x3 p_x4 p_s1 p_s2 p_s3 p_t1 p_t2 p_t3 p_p1 p_p2 p_p3 p_q1 p_q2 p_q3
  replace h_a := h_a.nx hb10
  replace h_b := h_b.nx hb10
  replace h_c := h_c.nx hb10
  replace h_x := h_x.nx hb10
  replace h_s := h_s.nx hb10
  replace h_t := h_t.nx hb10
  replace h_p := h_p.nx hb10
  replace h_q := h_q.nx hb10
  replace h_y := h_y.nx hb10
  replace hB := bnx hB hb10
  obtain ⟨p_a1, p_a2, p_a3⟩ := h_a.parts
  obtain ⟨p_b1, p_b2, p_b3⟩ := h_b.parts
  obtain ⟨p_c1, p_c2, p_c3⟩ := h_c.parts
  obtain ⟨p_x1, p_x2, p_x3, p_x4⟩ := h_x.parts
  obtain ⟨p_s1, p_s2, p_s3⟩ := h_s.parts
  obtain ⟨p_t1, p_t2, p_t3⟩ := h_t.parts
  obtain ⟨p_p1, p_p2, p_p3⟩ := h_p.parts
  obtain ⟨p_q1, p_q2, p_q3⟩ := h_q.parts
  obtain ⟨p_y1, p_y2, p_y3⟩ := h_y.parts
  clear hb10
  have h_z := Vx.new rs10
  replace h_a := h_a.nx (bal (Below.refl _ _) (.cells #[.int .i64 V10, .slice A10 k10 c10] 24))
  replace h_b := h_b.nx (bal (Below.refl _ _) (.cells #[.int .i64 V10, .slice A10 k10 c10] 24))
  replace h_c := h_c.nx (bal (Below.refl _ _) (.cells #[.int .i64 V10, .slice A10 k10 c10] 24))
  replace h_x := h_x.nx (bal (Below.refl _ _) (.cells #[.int .i64 V10, .slice A10 k10 c10] 24))
  replace h_s := h_s.nx (bal (Below.refl _ _) (.cells #[.int .i64 V10, .slice A10 k10 c10] 24))
  replace h_t := h_t.nx (bal (Below.refl _ _) (.cells #[.int .i64 V10, .slice A10 k10 c10] 24))
  replace h_p := h_p.nx (bal (Below.refl _ _) (.cells #[.int .i64 V10, .slice A10 k10 c10] 24))
  replace h_q := h_q.nx (bal (Below.refl _ _) (.cells #[.int .i64 V10, .slice A10 k10 c10] 24))
  replace h_y := h_y.nx (bal (Below.refl _ _) (.cells #[.int .i64 V10, .slice A10 k10 c10] 24))
  replace hB := bal hB (.cells #[.int .i64 V10, .slice A10 k10 c10] 24)
  clear rs10
  go_wp2_with fail
  generalize w10.alloc (.cells #[.int .i64 V10, .slice A10 k10 c10] 24) = w10m at *
  generalize w10.heap.size = gw10 at *
  refine (same_rs h_s.v h_t.v).mono ?_
  rintro e w11 ⟨rfl, hb11⟩
  clear p_a1 p_a2 p_a3 p_b1 p_b2 p_b3 p_c1 p_c2 p_c3 p_x1 p_x2 p_x3 p_x4 p_s1 p_s2 p_s3 p_t1 p_t2 p_t3 p_p1 p_p2 p_p3 p_q1 p_q2 p_q3 p_y1 p_y2 p_y3
  replace h_a := h_a.nx hb11
  replace h_b := h_b.nx hb11
  replace h_c := h_c.nx hb11
  replace h_x := h_x.nx hb11
  replace h_s := h_s.nx hb11
  replace h_t := h_t.nx hb11
  replace h_p := h_p.nx hb11
  replace h_q := h_q.nx hb11
  replace h_y := h_y.nx hb11
  replace h_z := h_z.nx hb11
  replace hB := bnx hB hb11
  obtain ⟨p_a1, p_a2, p_a3⟩ := h_a.parts
  obtain ⟨p_b1, p_b2, p_b3⟩ := h_b.parts
  obtain ⟨p_c1, p_c2, p_c3⟩ := h_c.parts
  obtain ⟨p_x1, p_x2, p_x3, p_x4⟩ := h_x.parts
  obtain ⟨p_s1, p_s2, p_s3⟩ := h_s.parts
  obtain ⟨p_t1, p_t2, p_t3⟩ := h_t.parts
  obtain ⟨p_p1, p_p2, p_p3⟩ := h_p.parts
  obtain ⟨p_q1, p_q2, p_q3⟩ := h_q.parts
  obtain ⟨p_y1, p_y2, p_y3⟩ := h_y.parts
  obtain ⟨p_z1, p_z2, p_z3⟩ := h_z.parts
  clear hb11
  go_wp2_with fail
  refine (same_rs h_p.v h_q.v).mono ?_
  rintro e w12 ⟨rfl, hb12⟩
  clear p_a1 p_a2 p_a3 p_b1 p_b2 p_b3 p_c1 p_c2 p_c3 p_x1 p_x2 p_x3 p_x4 p_s1 p_s2 p_s3 p_t1 p_t2 p_t3 p_p1 p_p2 p_p3 p_q1 p_q2 p_q3 p_y1 p_y2 p_y3 p_z1 p_z2 p_z3
  replace h_a := h_a.nx hb12
  replace h_b := h_b.nx hb12
  replace h_c := h_c.nx hb12
  replace h_x := h_x.nx hb12
  replace h_s := h_s.nx hb12
  replace h_t := h_t.nx hb12
  replace h_p := h_p.nx hb12
  replace h_q := h_q.nx hb12
  replace h_y := h_y.nx hb12
  replace h_z := h_z.nx hb12
  replace hB := bnx hB hb12
  obtain ⟨p_a1, p_a2, p_a3⟩ := h_a.parts
  obtain ⟨p_b1, p_b2, p_b3⟩ := h_b.parts
  obtain ⟨p_c1, p_c2, p_c3⟩ := h_c.parts
  obtain ⟨p_x1, p_x2, p_x3, p_x4⟩ := h_x.parts
  obtain ⟨p_s1, p_s2, p_s3⟩ := h_s.parts
  obtain ⟨p_t1, p_t2, p_t3⟩ := h_t.parts
  obtain ⟨p_p1, p_p2, p_p3⟩ := h_p.parts
  obtain ⟨p_q1, p_q2, p_q3⟩ := h_q.parts
  obtain ⟨p_y1, p_y2, p_y3⟩ := h_y.parts
  obtain ⟨p_z1, p_z2, p_z3⟩ := h_z.parts
  clear hb12
  go_wp2_with fail
  refine (same_rs h_y.v h_z.v).mono ?_
  rintro e w13 ⟨rfl, hb13⟩
  clear p_a1 p_a2 p_a3 p_b1 p_b2 p_b3 p_c1 p_c2 p_c3 p_x1 p_x2 p_x3 p_x4 p_s1 p_s2 p_s3 p_t1 p_t2 p_t3 p_p1 p_p2 p_p3 p_q1 p_q2 p_q3 p_y1 p_y2 p_y3 p_z1 p_z2 p_z3
  replace h_a := h_a.nx hb13
  replace h_b := h_b.nx hb13
  replace h_c := h_c.nx hb13
  replace h_x := h_x.nx hb13
  replace h_s := h_s.nx hb13
  replace h_t := h_t.nx hb13
  replace h_p := h_p.nx hb13
  replace h_q := h_q.nx hb13
  replace h_y := h_y.nx hb13
  replace h_z := h_z.nx hb13
  replace hB := bnx hB hb13
  obtain ⟨p_a1, p_a2, p_a3⟩ := h_a.parts
  obtain ⟨p_b1, p_b2, p_b3⟩ := h_b.parts
  obtain ⟨p_c1, p_c2, p_c3⟩ := h_c.parts
  obtain ⟨p_x1, p_x2, p_x3, p_x4⟩ := h_x.parts
  obtain ⟨p_s1, p_s2, p_s3⟩ := h_s.parts
  obtain ⟨p_t1, p_t2, p_t3⟩ := h_t.parts
  obtain ⟨p_p1, p_p2, p_p3⟩ := h_p.parts
  obtain ⟨p_q1, p_q2, p_q3⟩ := h_q.parts
  obtain ⟨p_y1, p_y2, p_y3⟩ := h_y.parts
  obtain ⟨p_z1, p_z2, p_z3⟩ := h_z.parts
  clear hb13
  go_wp2
  go_ret
  exact ⟨rfl, hB⟩
end Go.Proofs.Ytnnoflohekmnbaa
