/-
  results by name
-/
import Derived.Test.YtnnoflohekmnbaaProg
import Derived.WalkKit
import Derived.WalkSpells
import Derived.WalkLawsBesides
import Derived.LoopN
import Derived.IntWalk
import Derived.Lib.Hide
import Derived.Test.YtnnoflohekmnbaaD3
import Derived.Laws.BitsAllLaws
import Derived.Laws.Externs
import Derived.BigQuiet
import Derived.BigRegion
import Derived.Deep.QuietTactic
import Derived.Deep.RegionWith
import Derived.Deep.RegionHeld3
import Derived.StillTailTactics
import Derived.RegionTactic
import Derived.ChangeAlike
set_option linter.unusedVariables false
namespace Go.Proofs.Ytnnoflohekmnbaa
open Go.RowKit
def f_not (W N : Nat) : Nat := (2 ^ 128 - 1 - N) % 2 ^ W
theorem U_not {w : World} {ad : Addr} {c W N : Nat} (h : Vc w w.heap.size ad c W N) : Calls Try.prog 22 #[.string ⟨#[110, 111, 116]⟩, .agg #[.int .i64 W, .slice (some ad) (lm W) c]] w (RetVE w W (f_not W N)) := Un_not h
def f_inc (W N : Nat) : Nat := (N + 1) % 2 ^ 128 % 2 ^ W
theorem U_inc {w : World} {ad : Addr} {c W N : Nat} (h : Vc w w.heap.size ad c W N) : Calls Try.prog 22 #[.string ⟨#[105, 110, 99]⟩, .agg #[.int .i64 W, .slice (some ad) (lm W) c]] w (RetVE w W (f_inc W N)) := Un_inc h
def f_dec (W N : Nat) : Nat := sb N 1 % 2 ^ W
theorem U_dec {w : World} {ad : Addr} {c W N : Nat} (h : Vc w w.heap.size ad c W N) : Calls Try.prog 22 #[.string ⟨#[100, 101, 99]⟩, .agg #[.int .i64 W, .slice (some ad) (lm W) c]] w (RetVE w W (f_dec W N)) := Un_dec h
def f_neg (W N : Nat) : Nat := sb 0 N % 2 ^ W
theorem U_neg {w : World} {ad : Addr} {c W N : Nat} (h : Vc w w.heap.size ad c W N) : Calls Try.prog 22 #[.string ⟨#[110, 101, 103]⟩, .agg #[.int .i64 W, .slice (some ad) (lm W) c]] w (RetVE w W (f_neg W N)) := Un_neg h
def f_and (W N K : Nat) : Nat := (N &&& K) % 2 ^ W
theorem O_and {w : World} {ad ad' : Addr} {c c' W N K : Nat} (h : Vc w w.heap.size ad c W N) (h' : Vc w w.heap.size ad' c' W K) : Calls Try.prog 32 #[.string ⟨#[97, 110, 100]⟩, .agg #[.int .i64 W, .slice (some ad) (lm W) c], .agg #[.int .i64 W, .slice (some ad') (lm W) c']] w (RetVec w W (f_and W N K)) := of_and h h'
def f_or (W N K : Nat) : Nat := (N ||| K) % 2 ^ W
theorem O_or {w : World} {ad ad' : Addr} {c c' W N K : Nat} (h : Vc w w.heap.size ad c W N) (h' : Vc w w.heap.size ad' c' W K) : Calls Try.prog 32 #[.string ⟨#[111, 114]⟩, .agg #[.int .i64 W, .slice (some ad) (lm W) c], .agg #[.int .i64 W, .slice (some ad') (lm W) c']] w (RetVec w W (f_or W N K)) := of_or h h'
def f_xor (W N K : Nat) : Nat := (N ^^^ K) % 2 ^ W
theorem O_xor {w : World} {ad ad' : Addr} {c c' W N K : Nat} (h : Vc w w.heap.size ad c W N) (h' : Vc w w.heap.size ad' c' W K) : Calls Try.prog 32 #[.string ⟨#[120, 111, 114]⟩, .agg #[.int .i64 W, .slice (some ad) (lm W) c], .agg #[.int .i64 W, .slice (some ad') (lm W) c']] w (RetVec w W (f_xor W N K)) := of_xor h h'
def f_add (W N K : Nat) : Nat := (N + K) % 2 ^ 128 % 2 ^ W
theorem O_add {w : World} {ad ad' : Addr} {c c' W N K : Nat} (h : Vc w w.heap.size ad c W N) (h' : Vc w w.heap.size ad' c' W K) : Calls Try.prog 32 #[.string ⟨#[97, 100, 100]⟩, .agg #[.int .i64 W, .slice (some ad) (lm W) c], .agg #[.int .i64 W, .slice (some ad') (lm W) c']] w (RetVec w W (f_add W N K)) := of_add h h'
def f_sub (W N K : Nat) : Nat := sb N K % 2 ^ W
theorem O_sub {w : World} {ad ad' : Addr} {c c' W N K : Nat} (h : Vc w w.heap.size ad c W N) (h' : Vc w w.heap.size ad' c' W K) : Calls Try.prog 32 #[.string ⟨#[115, 117, 98]⟩, .agg #[.int .i64 W, .slice (some ad) (lm W) c], .agg #[.int .i64 W, .slice (some ad') (lm W) c']] w (RetVec w W (f_sub W N K)) := of_sub h h'
def f_mul (W N K : Nat) : Nat := N * K % 2 ^ 128 % 2 ^ W
theorem O_mul {w : World} {ad ad' : Addr} {c c' W N K : Nat} (h : Vc w w.heap.size ad c W N) (h' : Vc w w.heap.size ad' c' W K) : Calls Try.prog 32 #[.string ⟨#[109, 117, 108]⟩, .agg #[.int .i64 W, .slice (some ad) (lm W) c], .agg #[.int .i64 W, .slice (some ad') (lm W) c']] w (RetVec w W (f_mul W N K)) := of_mul h h'
def f_udiv (W N K : Nat) : Nat := (dv N K 128).1 % 2 ^ W
theorem O_udiv {w : World} {ad ad' : Addr} {c c' W N K : Nat} (h : Vc w w.heap.size ad c W N) (h' : Vc w w.heap.size ad' c' W K) : Calls Try.prog 32 #[.string ⟨#[117, 100, 105, 118]⟩, .agg #[.int .i64 W, .slice (some ad) (lm W) c], .agg #[.int .i64 W, .slice (some ad') (lm W) c']] w (RetVec w W (f_udiv W N K)) := of_udiv h h'
def f_urem (W N K : Nat) : Nat := (dv N K 128).2 % 2 ^ W
theorem O_urem {w : World} {ad ad' : Addr} {c c' W N K : Nat} (h : Vc w w.heap.size ad c W N) (h' : Vc w w.heap.size ad' c' W K) : Calls Try.prog 32 #[.string ⟨#[117, 114, 101, 109]⟩, .agg #[.int .i64 W, .slice (some ad) (lm W) c], .agg #[.int .i64 W, .slice (some ad') (lm W) c']] w (RetVec w W (f_urem W N K)) := of_urem h h'
def f_sll (W N K : Nat) : Nat := N * 2 ^ (min K W) % 2 ^ 128 % 2 ^ W
theorem O_sll {w : World} {ad ad' : Addr} {c c' W N K : Nat} (h : Vc w w.heap.size ad c W N) (h' : Vc w w.heap.size ad' c' W K) : Calls Try.prog 32 #[.string ⟨#[115, 108, 108]⟩, .agg #[.int .i64 W, .slice (some ad) (lm W) c], .agg #[.int .i64 W, .slice (some ad') (lm W) c']] w (RetVec w W (f_sll W N K)) := of_sll h h'
def f_srl (W N K : Nat) : Nat := N / 2 ^ (min K W) % 2 ^ W
theorem O_srl {w : World} {ad ad' : Addr} {c c' W N K : Nat} (h : Vc w w.heap.size ad c W N) (h' : Vc w w.heap.size ad' c' W K) : Calls Try.prog 32 #[.string ⟨#[115, 114, 108]⟩, .agg #[.int .i64 W, .slice (some ad) (lm W) c], .agg #[.int .i64 W, .slice (some ad') (lm W) c']] w (RetVec w W (f_srl W N K)) := of_srl h h'
def f_sra (W N K : Nat) : Nat := sraS N K W % 2 ^ W
theorem O_sra {w : World} {ad ad' : Addr} {c c' W N K : Nat} (h : Vc w w.heap.size ad c W N) (h' : Vc w w.heap.size ad' c' W K) : Calls Try.prog 32 #[.string ⟨#[115, 114, 97]⟩, .agg #[.int .i64 W, .slice (some ad) (lm W) c], .agg #[.int .i64 W, .slice (some ad') (lm W) c']] w (RetVec w W (f_sra W N K)) := of_sra h h'
theorem Bit_b {w : World} {ad : Addr} {c W N : Nat} {b : Bool} (h : Vc w w.heap.size ad c W N) {i : Int} (hb : tb N i = b) : Calls Try.prog 17 #[.agg #[.int .i64 W, .slice (some ad) (lm W) c], .int .i64 i] w (RetV w (.bool b)) := hb ▸ Bit_any h i
theorem sam_yes {w : World} {ad ad' : Addr} {c c' W N K : Nat} (h : Vc w w.heap.size ad c W N) (h' : Vc w w.heap.size ad' c' W K) (e : N = K) : Calls Try.prog 16 #[.agg #[.int .i64 W, .slice (some ad) (lm W) c], .agg #[.int .i64 W, .slice (some ad') (lm W) c']] w (RetV w (.bool true)) := by
  have hh := sam_any h h'
  rw [show (N == K) = true by simp [e]] at hh
  exact hh
theorem sam_no {w : World} {ad ad' : Addr} {c c' W N K : Nat} (h : Vc w w.heap.size ad c W N) (h' : Vc w w.heap.size ad' c' W K) (e : N ≠ K) : Calls Try.prog 16 #[.agg #[.int .i64 W, .slice (some ad) (lm W) c], .agg #[.int .i64 W, .slice (some ad') (lm W) c']] w (RetV w (.bool false)) := by
  have hh := sam_any h h'
  rw [show (N == K) = false by simp [e]] at hh
  exact hh
/-- Two vectors in boxes, as a function's parameters are laid. -/
theorem two_boxes {w : World} {ad ad' : Addr} {c c' W V N K : Nat} (h : Vc w w.heap.size ad c W N) (h' : Vc w w.heap.size ad' c' V K) :
    Va ((w.alloc (.cells #[.int .i64 W, .slice (some ad) (lm W) c] 24)).alloc (.cells #[.int .i64 V, .slice (some ad') (lm V) c'] 24)) w.heap.size ad c (lm W) W N (.int .i64 W) ∧
    Va ((w.alloc (.cells #[.int .i64 W, .slice (some ad) (lm W) c] 24)).alloc (.cells #[.int .i64 V, .slice (some ad') (lm V) c'] 24)) (w.heap.size + 1) ad' c' (lm V) V K (.int .i64 V) ∧
    Below w.heap.size w ((w.alloc (.cells #[.int .i64 W, .slice (some ad) (lm W) c] 24)).alloc (.cells #[.int .i64 V, .slice (some ad') (lm V) c'] 24)) := by
  refine ⟨(Va.new h (lm W) _).nx (bal (Below.refl _ _) _), ?_, bal (bal (Below.refl _ _) _) _⟩
  have := Va.new (h'.nx (bal (Below.refl _ _) (.cells #[.int .i64 W, .slice (some ad) (lm W) c] 24))) (lm V) (.int .i64 V)
  simpa using this
end Go.Proofs.Ytnnoflohekmnbaa
