/-
  A vector, or none, as a result; the reference's Slice and Ite.
-/
import Derived.Test.YtnnoflohekmnbaaProg
import Derived.WalkKit
import Derived.WalkSpells
import Derived.WalkLawsBesides
import Derived.LoopN
import Derived.IntWalk
import Derived.Lib.Hide
import Derived.Laws.BitsAllLaws
import Derived.Laws.Externs
import Derived.BigQuiet
import Derived.BigRegion
import Derived.Deep.QuietTactic
import Derived.Deep.RegionWith
import Derived.Deep.RegionHeld3
import Derived.StillTailTactics
import Derived.RegionTactic
import Derived.ChangeAlike
import Derived.Test.YtnnoflohekmnbaaR0
import Derived.Test.YtnnoflohekmnbaaN9
import Derived.Test.YtnnoflohekmnbaaN7
import Derived.Test.YtnnoflohekmnbaaE1
import Derived.Test.YtnnoflohekmnbaaC4
set_option linter.unusedVariables false
namespace Go.Proofs.Ytnnoflohekmnbaa
open Go.RowKit
/-- A vector of that width and number, or none. -/
def Rs (w : World) (V : Int) (A : Option Addr) (k c : Nat) (R : Option (Nat × Nat)) : Prop :=
  match R with
  | none => V = 0 ∧ A = none ∧ k = 0 ∧ c = 0
  | some r => V = (r.1 : Int) ∧ k = lm r.1 ∧ ∃ ad, A = some ad ∧ Vc w w.heap.size ad c r.1 r.2
theorem Rs.nx {w w' : World} {V : Int} {A : Option Addr} {k c : Nat} {R : Option (Nat × Nat)} (h : Rs w V A k c R) (hb : Below w.heap.size w w') : Rs w' V A k c R := by
  cases R with
  | none => exact h
  | some r => obtain ⟨h1, h2, ad, h3, h4⟩ := h; exact ⟨h1, h2, ad, h3, h4.nx hb⟩
/-- A call that tells a vector or none, and an error. -/
def RetR (w0 : World) (R : Option (Nat × Nat)) (x : Int) (e : Ending) (w' : World) : Prop := ∃ V A k c, e = .returned (.tuple #[.agg #[.int .i64 V, .slice A k c], .int .i64 x]) ∧ Rs w' V A k c R ∧ Below w0.heap.size w0 w'
theorem RetVE.r {w0 w' : World} {W N : Nat} {e : Ending} (h : RetVE w0 W N e w') : RetR w0 (some (W, N)) 0 e w' := by
  obtain ⟨ad, c, rfl, hv, _, hb⟩ := h
  exact ⟨_, _, _, _, rfl, ⟨rfl, rfl, ad, rfl, hv⟩, hb⟩
theorem RetErr.r {w0 w' : World} {k : Int} {e : Ending} (h : RetErr w0 k e w') : RetR w0 none k e w' := ⟨_, _, _, _, h.1, ⟨rfl, rfl, rfl, rfl⟩, h.2⟩
theorem same_rs {w : World} {V V' : Int} {A A' : Option Addr} {k k' c c' : Nat} {R : Option (Nat × Nat)} (h : Rs w V A k c R) (h' : Rs w V' A' k' c' R) : Calls Try.prog 16 #[.agg #[.int .i64 V, .slice A k c], .agg #[.int .i64 V', .slice A' k' c']] w (RetV w (.bool true)) := by
  cases R with
  | none =>
    obtain ⟨rfl, rfl, rfl, rfl⟩ := h
    obtain ⟨rfl, rfl, rfl, rfl⟩ := h'
    exact sam_none w
  | some r =>
    obtain ⟨rfl, rfl, ad, rfl, h1⟩ := h
    obtain ⟨rfl, rfl, ad', rfl, h2⟩ := h'
    exact sam_yes h1 h2 rfl
theorem RetVE.at_ {w w' : World} {W N W' N' : Nat} {e : Ending} (h : RetVE w W N e w') (h1 : W = W') (h2 : N = N') : RetVE w W' N' e w' := h1 ▸ h2 ▸ h
theorem refBits_k {w : World} {ad : Addr} {c W N k : Nat} (hk : lm W = k) (h : Vc w w.heap.size ad c W N) : Calls Try.prog 41 #[.agg #[.int .i64 W, .slice (some ad) k c]] w (RetBs w W N) := hk ▸ refBits_any h
theorem refOf_l (A : Option Addr) (c W : Nat) (l : List Bool) (w : World) (h : RB w w.heap.size A l) (hl : l.length = W) (h1 : 1 ≤ W) (h2 : W ≤ 128) :
    Calls Try.prog 35 #[.slice A W c] w (RetVec w W (nb l)) := by
  subst hl; exact refOf_any A c l w h h1 h2
set_option maxHeartbeats 400000 in
theorem refSlice_erra (V : Value) (W hi lo : Int) (w : World) (h0 : lo < 0) : Calls Try.prog 27 #[.agg #[.int .i64 W, V], .int .i64 hi, .int .i64 lo] w (RetErr w 5) := by
  have d1 : decide (lo < 0) = true := decide_eq_true h0
  go_enter Try.func27, Try.ntmps27
  go_wp2
  refine bodyPost_ret (v := .tuple #[.agg #[.int .i64 0, .slice none 0 0], .int .i64 5]) (by simp [results, Try.results27, go_sem]) rfl ⟨rfl, ?_⟩
  repeat (first | exact Below.refl _ _ | refine below_drewN ?_ _ | refine bal ?_ _)
set_option maxHeartbeats 400000 in
theorem refSlice_errb (V : Value) (W hi lo : Int) (w : World) (h0 : 0 ≤ lo) (h1 : hi < lo) : Calls Try.prog 27 #[.agg #[.int .i64 W, V], .int .i64 hi, .int .i64 lo] w (RetErr w 5) := by
  have d1 : decide (lo < 0) = false := decide_eq_false (by omega)
  have d2 : decide (hi < lo) = true := decide_eq_true h1
  go_enter Try.func27, Try.ntmps27
  go_wp2
  refine bodyPost_ret (v := .tuple #[.agg #[.int .i64 0, .slice none 0 0], .int .i64 5]) (by simp [results, Try.results27, go_sem]) rfl ⟨rfl, ?_⟩
  repeat (first | exact Below.refl _ _ | refine below_drewN ?_ _ | refine bal ?_ _)
set_option maxHeartbeats 400000 in
theorem refSlice_errc (V : Value) (W hi lo : Int) (w : World) (h0 : 0 ≤ lo) (h1 : lo ≤ hi) (h2 : W ≤ hi) : Calls Try.prog 27 #[.agg #[.int .i64 W, V], .int .i64 hi, .int .i64 lo] w (RetErr w 5) := by
  have d1 : decide (lo < 0) = false := decide_eq_false (by omega)
  have d2 : decide (hi < lo) = false := decide_eq_false (by omega)
  have d3 : decide (W ≤ hi) = true := decide_eq_true h2
  go_enter Try.func27, Try.ntmps27
  go_wp2
  refine bodyPost_ret (v := .tuple #[.agg #[.int .i64 0, .slice none 0 0], .int .i64 5]) (by simp [results, Try.results27, go_sem]) rfl ⟨rfl, ?_⟩
  repeat (first | exact Below.refl _ _ | refine below_drewN ?_ _ | refine bal ?_ _)
/-- Where a piece of a row of bits begins. -/
def cutB (A : Option Addr) (c k : Nat) : Option Addr := if c = k then A else A.map (·.add k)
theorem slice_lhB (A : Option Addr) (n c k m : Nat) (K H : Int) (hK : K = (k : Int)) (hH : H = (k : Int) + m) (h1 : k + m ≤ c) (w : World) :
    (Instr.slice 65 (.slice A n c) (some (.int .i64 K)) (some (.int .i64 H)) none).run Try.prog w = .ok (.slice (cutB A c k) m (c - k)) w := by
  subst hK hH
  have u65 : Try.prog.underlying 65 = some (.slice (Try.prog.elem 65)) := by kernel_rfl
  have e : Try.prog.elem 65 = 4 := by kernel_rfl
  have hs : (Try.prog.info? 4).map (·.size) = some 1 := by kernel_rfl
  obtain ⟨i, hi, hs⟩ := Option.map_eq_some_iff.1 hs
  rw [run_slice_lh w 65 A n c u65 .i64 .i64 k (k + m) (by omega) (by omega) (by omega), e]
  have e1 : ((k : Int) + m).toNat = k + m := by omega
  simp [sizeOf, typeInfo, hi, hs, Result.andThen, sliced, cutB, e1]
theorem RB.cut {w : World} {B : Nat} {A : Option Addr} {l : List Bool} (h : RB w B A l) {k c m : Nat} (hc : l.length ≤ c) : RB w B (cutB A c k) ((l.drop k).take m) := by
  intro i hi
  simp only [List.length_take, List.length_drop] at hi
  obtain ⟨ad, rfl, hb, hcell⟩ := h (k + i) (by omega)
  have e2 : (ad.add k).add i = ad.add (k + i) := by
    unfold Addr.add
    by_cases hi : i = 0 <;> by_cases hj : k = 0 <;> simp [hi, hj, Nat.add_assoc]
  refine ⟨ad.add k, by simp [cutB]; omega, by rw [blk_add]; exact hb, ?_⟩
  rw [e2, hcell]
  have e : ((l.drop k).take m).getD i false = l.getD (k + i) false := by
    simp only [List.getD_eq_getElem?_getD, List.getElem?_take, List.getElem?_drop]
    rw [if_pos (by omega)]
  rw [e]
set_option maxRecDepth 100000 in
set_option maxHeartbeats 1000000 in
theorem refSlice_ok {w : World} {ad : Addr} {c W N lo hi m : Nat} (h : Vc w w.heap.size ad c W N) (h0 : lo ≤ hi) (h1 : hi < W) (hm : (hi : Int) - (lo : Int) + 1 = (m : Int)) :
    Calls Try.prog 27 #[.agg #[.int .i64 W, .slice (some ad) (lm W) c], .int .i64 hi, .int .i64 lo] w (RetVE w m (N / 2 ^ lo % 2 ^ m)) := by
  have h2 := h.w2
  have hm1 : 1 ≤ m := by omega
  have hm2 : m ≤ 128 := by omega
  have hmm : hi + 1 = lo + m := by omega
  have HMM := Lib.hid hmm
  have hF0 := Lib.hid (Fr2.first w (.int .i64 W) (.slice (some ad) (lm W) c) (.int .i64 0) (.slice none 0 0) 24 24)
  have hV0 := Lib.hid (h.nx (Fr2.first w (.int .i64 W) (.slice (some ad) (lm W) c) (.int .i64 0) (.slice none 0 0) 24 24).bel)
  have d1 : decide ((lo : Int) < 0) = false := decide_eq_false (by omega)
  have d2 : decide ((hi : Int) < (lo : Int)) = false := decide_eq_false (by omega)
  have d2' : decide (hi < lo) = false := decide_eq_false (by omega)
  have d3 : decide ((W : Int) ≤ (hi : Int)) = false := decide_eq_false (by omega)
  have d3' : decide (W ≤ hi) = false := decide_eq_false (by omega)
  generalize hk : lm W = k at *
  have HK := Lib.hid hk
  clear h hk hm hmm
  go_enter Try.func27, Try.ntmps27
  go_wp2_with fail
  refine (refBits_k HK.out hV0.out).mono ?_
  rintro e w1 ⟨v, l, rfl, hl, hN, ho, hb1⟩
  have hF1 := hF0.out.nx hb1
  obtain ⟨A1, c1, rfl, hr, _⟩ := ho.val
  obtain ⟨_, n1, m1, _⟩ := ho.cap
  obtain ⟨⟨p1, p2⟩, ⟨p3, p4, p5, p6⟩, pz⟩ := hF1.parts
  obtain ⟨Z, hZ⟩ : ∃ Z, cutB A1 c1 lo = Z := ⟨_, rfl⟩
  have sl : ∀ wx, (Instr.slice 65 (.slice A1 l.length c1) (some (.int .i64 (lo : Int))) (some (.int .i64 ((hi : Int) + 1))) none).run Try.prog wx = .ok (.slice Z m (c1 - lo)) wx := fun wx => by
    rw [← hZ]
    exact slice_lhB A1 l.length c1 lo m lo ((hi : Int) + 1) rfl (by have := HMM.out; omega) (by have := HMM.out; omega) wx
  have hr2 := hr.cut (k := lo) (c := c1) (m := m) n1
  rw [hZ] at hr2
  have hl2 : ((l.drop lo).take m).length = m := by simp; have := HMM.out; omega
  have hn2 := nb_cut l lo m (by have := HMM.out; omega)
  rw [hN] at hn2
  have C2 := refOf_l Z (c1 - lo) m _ w1 hr2 hl2 hm1 hm2
  rw [hn2] at C2
  have HL := Lib.hid hl
  have hh : (hi : Int) + 1 ≤ 1000 := by omega
  clear hb1 ho hr n1 m1 hr2 hl2 hn2 hN hZ hl HMM
  generalize l.length = nl at *
  go_wp2_with fail
  refine C2.mono ?_
  rintro e w4 ⟨ad4, c4, rfl, hv4, hf4, hb4⟩
  have hF4 := hF1.nx hb4
  have hg4 : w.heap.size + 1 < ad4.block := by have := hF1.sz; omega
  clear p1 p2 p3 p4 p5 p6 pz C2 sl
  obtain ⟨⟨p1, p2⟩, ⟨p3, p4, p5, p6⟩, pz⟩ := hF4.parts
  go_wp2
  refine bodyPost_ret (v := .tuple #[.agg #[.int .i64 (m : Int), .slice (some ad4) (lm m) c4], .int .i64 0]) (by simp [results, Try.results27, go_sem, *]) rfl ?_
  exact RetVE.mk (W := m) hv4 hF4.bel (by omega) hg4
end Go.Proofs.Ytnnoflohekmnbaa
