/-
  ref Right of right vectors; of
-/
import Derived.Test.YtnnoflohekmnbaaProg
import Derived.WalkKit
import Derived.WalkSpells
import Derived.WalkLawsBesides
import Derived.LoopN
import Derived.IntWalk
import Derived.Lib.Hide
import Derived.Test.YtnnoflohekmnbaaD2
import Derived.Laws.BitsAllLaws
import Derived.Laws.Externs
import Derived.BigQuiet
import Derived.BigRegion
import Derived.Deep.QuietTactic
import Derived.Deep.RegionWith
import Derived.Deep.RegionHeld3
import Derived.StillTailTactics
import Derived.RegionTactic
import Derived.ChangeAlike
set_option linter.unusedVariables false
namespace Go.Proofs.Ytnnoflohekmnbaa
open Go.RowKit
theorem rightB_vc {w : World} {ad : Addr} {c W N : Nat} (h : Vc w w.heap.size ad c W N) : (lmL W N).length = lm W ∧ rightB (W : Int) (lmL W N) = true := by
  have h1 := h.w1
  have h2 := h.w2
  have hn := h.n
  unfold rightB lmL lm
  by_cases h6 : W ≤ 64
  · rw [if_pos h6]
    refine ⟨by simp; omega, ?_⟩
    simp only [List.length_cons, List.length_nil, Bool.and_eq_true, decide_eq_true_eq, Bool.or_eq_true, beq_iff_eq]
    refine ⟨⟨⟨by omega, by omega⟩, by omega⟩, ?_⟩
    by_cases h7 : W = 64
    · left; omega
    · right
      have e : ((W : Int) % 64).toNat = W := by omega
      rw [e]; simpa using hn
  · rw [if_neg h6]
    refine ⟨by simp; omega, ?_⟩
    simp only [List.length_cons, List.length_nil, Bool.and_eq_true, decide_eq_true_eq, Bool.or_eq_true, beq_iff_eq]
    refine ⟨⟨⟨by omega, by omega⟩, by omega⟩, ?_⟩
    by_cases h7 : W = 128
    · left; omega
    · right
      have e : ((W : Int) % 64).toNat = W - 64 := by omega
      have e3 : (2 : Nat) ^ W = 18446744073709551616 * 2 ^ (W - 64) := by rw [← two64, ← Nat.pow_add]; congr 1; omega
      rw [e3] at hn
      rw [e]
      show N / 18446744073709551616 < 2 ^ (W - 64)
      exact Nat.div_lt_of_lt_mul hn
theorem refRight_vc {w : World} {ad : Addr} {c W N : Nat} (h : Vc w w.heap.size ad c W N) : Calls Try.prog 14 #[.agg #[.int .i64 W, .slice (some ad) (lm W) c]] w (RetV w (.bool true)) := by
  obtain ⟨e1, e2⟩ := rightB_vc h
  have hh := refRight_any (some ad) c (lmL W N) W w h.rd
  rw [e1, e2] at hh
  exact hh
set_option maxRecDepth 100000 in
set_option maxHeartbeats 1000000 in
theorem RetVec.al {w w' : World} {W N : Nat} {e : Ending} (h : RetVec w W N e w') (o : Obj) : RetVec w W N e (w'.alloc o) := by
  obtain ⟨ad, c, rfl, hv, hf, hb⟩ := h
  exact ⟨ad, c, rfl, hv.nx (bal (Below.refl _ _) o), hf, bal hb o⟩
theorem of_any {w : World} {ad ad' : Addr} {c c' W V N K D Y : Nat} (s : ByteArray) (h : Vc w w.heap.size ad c W N) (h' : Vc w w.heap.size ad' c' V K)
    (HC : Hid (∀ wx, Vc wx wx.heap.size ad c W N → Vc wx wx.heap.size ad' c' V K → Calls Try.prog 24 #[.string s, .agg #[.int .i64 W, .slice (some ad) (lm W) c], .agg #[.int .i64 V, .slice (some ad') (lm V) c']] wx (RetVE wx D Y))) :
    Calls Try.prog 32 #[.string s, .agg #[.int .i64 W, .slice (some ad) (lm W) c], .agg #[.int .i64 V, .slice (some ad') (lm V) c']] w (RetVec w D Y) := by
  have hF0 := Lib.hid (Fr3.first w (.int .i64 W) (.slice (some ad) (lm W) c) (.int .i64 V) (.slice (some ad') (lm V) c') (.int .i64 0) (.slice none 0 0) 24 24 24)
  have H := Lib.hid (HC.out _ (h.nx hF0.out.bel) (h'.nx hF0.out.bel))
  clear h h' HC
  go_enter Try.func32, Try.ntmps32
  go_wp2_with fail
  refine H.out.mono ?_
  rintro e w1 ⟨ad1, c1, rfl, hv1, hf1, hb1⟩
  have hF1 := hF0.out.nx hb1
  obtain ⟨⟨p1, p2⟩, ⟨p3, p4⟩, ⟨p5, p6, p7, p8⟩, pz⟩ := hF1.parts
  have pz1 : w.heap.size + 1 < w1.heap.size := by omega
  have pz2 : w.heap.size < w1.heap.size := by omega
  have hsz := hF0.out.sz
  have hF2 := hF1.nx (bal (Below.refl _ _) (.cells #[.int .i64 D, .slice (some ad1) (lm D) c1] 24))
  have hv2 := hv1.nx (bal (Below.refl _ _) (.cells #[.int .i64 D, .slice (some ad1) (lm D) c1] 24))
  clear H hb1
  go_wp2
  refine bodyPost_ret (v := .agg #[.int .i64 (D : Int), .slice (some ad1) (lm D) c1]) (by simp [results, Try.results32, go_sem, *]) rfl ?_
  exact RetVec.al (RetVec.mk (g := w.heap.size + 1 + 1) (n := lm D) rfl hv1 hF1.bel (by omega) (by omega)) _
/-- A vector that a call tells by itself. -/
theorem of_to {w w' : World} {W N M : Nat} {e : Ending} (h : RetVec w W N e w') (hN : N = M) : RetVec w W M e w' := hN ▸ h
theorem of_and {w : World} {ad ad' : Addr} {c c' W N K : Nat} (h : Vc w w.heap.size ad c W N) (h' : Vc w w.heap.size ad' c' W K) :
    Calls Try.prog 32 #[.string ⟨#[97, 110, 100]⟩, .agg #[.int .i64 W, .slice (some ad) (lm W) c], .agg #[.int .i64 W, .slice (some ad') (lm W) c']] w (RetVec w W ((N &&& K) % 2 ^ W)) :=
  of_any ⟨#[97, 110, 100]⟩ h h' (fun wx hv hu => Bin_and hv hu)
theorem of_or {w : World} {ad ad' : Addr} {c c' W N K : Nat} (h : Vc w w.heap.size ad c W N) (h' : Vc w w.heap.size ad' c' W K) :
    Calls Try.prog 32 #[.string ⟨#[111, 114]⟩, .agg #[.int .i64 W, .slice (some ad) (lm W) c], .agg #[.int .i64 W, .slice (some ad') (lm W) c']] w (RetVec w W ((N ||| K) % 2 ^ W)) :=
  of_any ⟨#[111, 114]⟩ h h' (fun wx hv hu => Bin_or hv hu)
theorem of_xor {w : World} {ad ad' : Addr} {c c' W N K : Nat} (h : Vc w w.heap.size ad c W N) (h' : Vc w w.heap.size ad' c' W K) :
    Calls Try.prog 32 #[.string ⟨#[120, 111, 114]⟩, .agg #[.int .i64 W, .slice (some ad) (lm W) c], .agg #[.int .i64 W, .slice (some ad') (lm W) c']] w (RetVec w W ((N ^^^ K) % 2 ^ W)) :=
  of_any ⟨#[120, 111, 114]⟩ h h' (fun wx hv hu => Bin_xor hv hu)
theorem of_add {w : World} {ad ad' : Addr} {c c' W N K : Nat} (h : Vc w w.heap.size ad c W N) (h' : Vc w w.heap.size ad' c' W K) :
    Calls Try.prog 32 #[.string ⟨#[97, 100, 100]⟩, .agg #[.int .i64 W, .slice (some ad) (lm W) c], .agg #[.int .i64 W, .slice (some ad') (lm W) c']] w (RetVec w W ((N + K) % 2 ^ 128 % 2 ^ W)) :=
  of_any ⟨#[97, 100, 100]⟩ h h' (fun wx hv hu => Bin_add hv hu)
theorem of_sub {w : World} {ad ad' : Addr} {c c' W N K : Nat} (h : Vc w w.heap.size ad c W N) (h' : Vc w w.heap.size ad' c' W K) :
    Calls Try.prog 32 #[.string ⟨#[115, 117, 98]⟩, .agg #[.int .i64 W, .slice (some ad) (lm W) c], .agg #[.int .i64 W, .slice (some ad') (lm W) c']] w (RetVec w W (sb N K % 2 ^ W)) :=
  of_any ⟨#[115, 117, 98]⟩ h h' (fun wx hv hu => Bin_sub hv hu)
theorem of_mul {w : World} {ad ad' : Addr} {c c' W N K : Nat} (h : Vc w w.heap.size ad c W N) (h' : Vc w w.heap.size ad' c' W K) :
    Calls Try.prog 32 #[.string ⟨#[109, 117, 108]⟩, .agg #[.int .i64 W, .slice (some ad) (lm W) c], .agg #[.int .i64 W, .slice (some ad') (lm W) c']] w (RetVec w W (N * K % 2 ^ 128 % 2 ^ W)) :=
  of_any ⟨#[109, 117, 108]⟩ h h' (fun wx hv hu => Bin_mul hv hu)
theorem of_udiv {w : World} {ad ad' : Addr} {c c' W N K : Nat} (h : Vc w w.heap.size ad c W N) (h' : Vc w w.heap.size ad' c' W K) :
    Calls Try.prog 32 #[.string ⟨#[117, 100, 105, 118]⟩, .agg #[.int .i64 W, .slice (some ad) (lm W) c], .agg #[.int .i64 W, .slice (some ad') (lm W) c']] w (RetVec w W ((dv N K 128).1 % 2 ^ W)) :=
  of_any ⟨#[117, 100, 105, 118]⟩ h h' (fun wx hv hu => Bin_udiv hv hu)
theorem of_urem {w : World} {ad ad' : Addr} {c c' W N K : Nat} (h : Vc w w.heap.size ad c W N) (h' : Vc w w.heap.size ad' c' W K) :
    Calls Try.prog 32 #[.string ⟨#[117, 114, 101, 109]⟩, .agg #[.int .i64 W, .slice (some ad) (lm W) c], .agg #[.int .i64 W, .slice (some ad') (lm W) c']] w (RetVec w W ((dv N K 128).2 % 2 ^ W)) :=
  of_any ⟨#[117, 114, 101, 109]⟩ h h' (fun wx hv hu => Bin_urem hv hu)
theorem of_sll {w : World} {ad ad' : Addr} {c c' W N K : Nat} (h : Vc w w.heap.size ad c W N) (h' : Vc w w.heap.size ad' c' W K) :
    Calls Try.prog 32 #[.string ⟨#[115, 108, 108]⟩, .agg #[.int .i64 W, .slice (some ad) (lm W) c], .agg #[.int .i64 W, .slice (some ad') (lm W) c']] w (RetVec w W (N * 2 ^ (min K W) % 2 ^ 128 % 2 ^ W)) :=
  of_any ⟨#[115, 108, 108]⟩ h h' (fun wx hv hu => Bin_sll hv hu)
theorem of_srl {w : World} {ad ad' : Addr} {c c' W N K : Nat} (h : Vc w w.heap.size ad c W N) (h' : Vc w w.heap.size ad' c' W K) :
    Calls Try.prog 32 #[.string ⟨#[115, 114, 108]⟩, .agg #[.int .i64 W, .slice (some ad) (lm W) c], .agg #[.int .i64 W, .slice (some ad') (lm W) c']] w (RetVec w W (N / 2 ^ (min K W) % 2 ^ W)) :=
  of_any ⟨#[115, 114, 108]⟩ h h' (fun wx hv hu => Bin_srl hv hu)
theorem of_sra {w : World} {ad ad' : Addr} {c c' W N K : Nat} (h : Vc w w.heap.size ad c W N) (h' : Vc w w.heap.size ad' c' W K) :
    Calls Try.prog 32 #[.string ⟨#[115, 114, 97]⟩, .agg #[.int .i64 W, .slice (some ad) (lm W) c], .agg #[.int .i64 W, .slice (some ad') (lm W) c']] w (RetVec w W (sraS N K W % 2 ^ W)) :=
  of_any ⟨#[115, 114, 97]⟩ h h' (fun wx hv hu => Bin_sra hv hu)
theorem of_ult {w : World} {ad ad' : Addr} {c c' W N K : Nat} (h : Vc w w.heap.size ad c W N) (h' : Vc w w.heap.size ad' c' W K) :
    Calls Try.prog 32 #[.string ⟨#[117, 108, 116]⟩, .agg #[.int .i64 W, .slice (some ad) (lm W) c], .agg #[.int .i64 W, .slice (some ad') (lm W) c']] w (RetVec w 1 (bn (decide (N < K)))) :=
  of_any ⟨#[117, 108, 116]⟩ h h' (fun wx hv hu => Bin_ult hv hu)
theorem of_concat {w : World} {ad ad' : Addr} {c c' W V N K : Nat} (h : Vc w w.heap.size ad c W N) (h' : Vc w w.heap.size ad' c' V K) (hs : W + V ≤ 128) :
    Calls Try.prog 32 #[.string ⟨#[99, 111, 110, 99, 97, 116]⟩, .agg #[.int .i64 W, .slice (some ad) (lm W) c], .agg #[.int .i64 V, .slice (some ad') (lm V) c']] w (RetVec w (W + V) ((N * 2 ^ V % 2 ^ 128 ||| K) % 2 ^ (W + V))) :=
  of_any ⟨#[99, 111, 110, 99, 97, 116]⟩ h h' (fun wx hv hu => Bin_concat hv hu hs)
end Go.Proofs.Ytnnoflohekmnbaa
