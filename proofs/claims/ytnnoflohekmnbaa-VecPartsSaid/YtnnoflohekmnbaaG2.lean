/-
  VecParts: contracts
-/
import Derived.Test.YtnnoflohekmnbaaProg
import Derived.WalkKit
import Derived.WalkSpells
import Derived.WalkLawsBesides
import Derived.LoopN
import Derived.IntWalk
import Derived.Lib.Hide
import Derived.Test.YtnnoflohekmnbaaE4
import Derived.Test.YtnnoflohekmnbaaE1
import Derived.Laws.BitsAllLaws
import Derived.Laws.Externs
import Derived.BigQuiet
import Derived.BigRegion
import Derived.Deep.QuietTactic
import Derived.Deep.RegionWith
import Derived.Deep.RegionHeld3
import Derived.StillTailTactics
import Derived.RegionTactic
import Derived.ChangeAlike
import Derived.Deep.DeepCutAuto
set_option linter.unusedVariables false
namespace Go.Proofs.Ytnnoflohekmnbaa
open Go.RowKit
theorem keep3 {wr : World} {ga ca ka Wa Na : Nat} {ada : Addr} {xa : Value} (ha : Va wr ga ada ca ka Wa Na xa) {gb cb kb Wb Nb : Nat} {adb : Addr} {xb : Value} (hb : Va wr gb adb cb kb Wb Nb xb) {gc cc kc Wc Nc : Nat} {adc : Addr} {xc : Value} (hc : Va wr gc adc cc kc Wc Nc xc) : wr.cell? ⟨ga, 0, none⟩ = some xa ∧ wr.cell? ⟨ga, 1, none⟩ = some (.slice (some ada) ka ca) ∧ wr.cell? ⟨gb, 0, none⟩ = some xb ∧ wr.cell? ⟨gb, 1, none⟩ = some (.slice (some adb) kb cb) ∧ wr.cell? ⟨gc, 0, none⟩ = some xc ∧ wr.cell? ⟨gc, 1, none⟩ = some (.slice (some adc) kc cc) := ⟨ha.parts.1, ha.parts.2.1, hb.parts.1, hb.parts.2.1, hc.parts.1, hc.parts.2.1⟩
theorem keep2 {wr : World} {ga ca ka Wa Na : Nat} {ada : Addr} {xa : Value} (ha : Va wr ga ada ca ka Wa Na xa) {gb cb kb Wb Nb : Nat} {adb : Addr} {xb : Value} (hb : Va wr gb adb cb kb Wb Nb xb) : wr.cell? ⟨ga, 0, none⟩ = some xa ∧ wr.cell? ⟨ga, 1, none⟩ = some (.slice (some ada) ka ca) ∧ wr.cell? ⟨gb, 0, none⟩ = some xb ∧ wr.cell? ⟨gb, 1, none⟩ = some (.slice (some adb) kb cb) := ⟨ha.parts.1, ha.parts.2.1, hb.parts.1, hb.parts.2.1⟩
def f_cat (W V N K : Nat) : Nat := (N * 2 ^ V % 2 ^ 128 ||| K) % 2 ^ (W + V)
theorem C_cat {w : World} {ad ad' : Addr} {c c' W V N K U : Nat} (h : Vc w w.heap.size ad c W N) (h' : Vc w w.heap.size ad' c' V K) (hU : W + V = U) (hs : U ≤ 128) :
    Calls Try.prog 24 #[.string ⟨#[99, 111, 110, 99, 97, 116]⟩, .agg #[.int .i64 W, .slice (some ad) (lm W) c], .agg #[.int .i64 V, .slice (some ad') (lm V) c']] w (RetVE w U (f_cat W V N K)) := by
  subst hU; exact Bin_concat h h' hs
theorem C_text {w : World} {ad : Addr} {c W N : Nat} {T : ByteArray} (h : Vc w w.heap.size ad c W N) (hT : txt W N = T) : Calls Try.prog 19 #[.agg #[.int .i64 W, .slice (some ad) (lm W) c]] w (RetV w (.string T)) := hT ▸ Text_any h
def f_ext (W m N : Nat) : Nat := (if N.testBit (W - 1) then N ||| (2 ^ 128 - 1 - (2 ^ W - 1)) else N) % 2 ^ (W + m)
theorem C_ext {w : World} {ad : Addr} {c W N U : Nat} {n : Int} (h : Vc w w.heap.size ad c W N) (m : Nat) (hn : n = (m : Int)) (hU : W + m = U) (hs : U ≤ 128) : Calls Try.prog 28 #[.agg #[.int .i64 W, .slice (some ad) (lm W) c], .int .i64 n, .bool true] w (RetVE w U (f_ext W m N)) := by
  subst hU hn
  unfold f_ext
  cases hb : N.testBit (W - 1)
  · rw [if_neg (by simp)]; exact Ext_low h m hs hb N (fun x y l => l)
  · rw [if_pos rfl]; exact Ext_high h m hs hb _ (fun x y l => l)
theorem C_cut {w : World} {ad : Addr} {c W N t W1 m R : Nat} (h : Vc w w.heap.size ad c W N) (h0 : t ≤ W1) (h1 : W1 < W) (hm : W1 + 1 = m + t) (hR : N / 2 ^ t % 2 ^ m = R) : Calls Try.prog 26 #[.agg #[.int .i64 W, .slice (some ad) (lm W) c], .int .i64 W1, .int .i64 t] w (RetVE w m R) :=
  Slice_walk h h0 h1 (by omega) hR
theorem C_cuti {w : World} {ad : Addr} {c W N t W1 m R : Nat} {i : Int} (h : Vc w w.heap.size ad c W N) (hi : i = (t : Int)) (h0 : t ≤ W1) (h1 : W1 < W) (hm : W1 + 1 = m + t) (hR : N / 2 ^ t % 2 ^ m = R) : Calls Try.prog 26 #[.agg #[.int .i64 W, .slice (some ad) (lm W) c], .int .i64 W1, .int .i64 i] w (RetVE w m R) :=
  hi ▸ C_cut h h0 h1 hm hR
theorem C_back {w : World} {ad : Addr} {c W N W1 m R : Nat} (h : Vc w w.heap.size ad c W N) (h1 : W1 < W) (hm : W1 + 1 = m) (hR : N % 2 ^ m = R) : Calls Try.prog 26 #[.agg #[.int .i64 W, .slice (some ad) (lm W) c], .int .i64 W1, .int .i64 0] w (RetVE w m R) :=
  C_cut (t := 0) h (by omega) h1 (by omega) (by simpa using hR)
theorem O_cat {w : World} {ad ad' : Addr} {c c' W V N K U Y : Nat} (h : Vc w w.heap.size ad c W N) (h' : Vc w w.heap.size ad' c' V K) (hU : W + V = U) (hs : U ≤ 128) (hY : f_cat W V N K = Y) :
    Calls Try.prog 32 #[.string ⟨#[99, 111, 110, 99, 97, 116]⟩, .agg #[.int .i64 W, .slice (some ad) (lm W) c], .agg #[.int .i64 V, .slice (some ad') (lm V) c']] w (RetVec w U Y) := by
  subst hU hY; exact of_concat h h' hs
theorem below_over2 {w w1 : World} {o : Obj} (h : Below (w.heap.size + 1) (w.alloc o) w1) : Below w.heap.size w w1 := (bal (Below.refl w.heap.size w) o).trans (h.mono (by omega))
end Go.Proofs.Ytnnoflohekmnbaa
