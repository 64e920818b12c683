/-
  vec.truth over the translated program, and what functions that box a vector lean on. Nothing is assumed.
-/
import Derived.Test.YtnnoflohekmnbaaProg
import Derived.WalkKit
import Derived.WalkSpells
import Derived.WalkLawsBesides
import Derived.LoopN
import Derived.IntWalk
import Derived.Lib.Hide
import Derived.Test.YtnnoflohekmnbaaB2
import Derived.Laws.BitsAllLaws
import Derived.Laws.Externs
import Derived.BigQuiet
import Derived.BigRegion
import Derived.Deep.QuietTactic
import Derived.Deep.RegionWith
import Derived.Deep.RegionHeld3
import Derived.StillTailTactics
import Derived.RegionTactic
import Derived.ChangeAlike
set_option linter.unusedVariables false
namespace Go.Proofs.Ytnnoflohekmnbaa
open Go.RowKit
/-- Block g holds the two values x and y. -/
def Duo (w : World) (g : Nat) (x y : Value) : Prop := w.cell? ⟨g, 0, none⟩ = some x ∧ w.cell? ⟨g, 1, none⟩ = some y ∧ w.frozen? ⟨g, 0, none⟩ = false ∧ w.frozen? ⟨g, 1, none⟩ = false
theorem Duo.below {w w' : World} {B g : Nat} {x y : Value} (h : Duo w g x y) (hb : Below B w w') (hg : g < B) : Duo w' g x y := by
  obtain ⟨h1, h2, h3, h4⟩ := h
  exact ⟨(hb.cell (p := ⟨g, 0, none⟩) hg).trans h1, (hb.cell (p := ⟨g, 1, none⟩) hg).trans h2, (hb.frozen (p := ⟨g, 0, none⟩) hg).trans h3, (hb.frozen (p := ⟨g, 1, none⟩) hg).trans h4⟩
/-- The world of a function that boxes one vector (or number) and has one result in memory. -/
structure Fr2 (w wr : World) (x0 x1 r0 r1 : Value) : Prop where
  bel : Below w.heap.size w wr
  sz : w.heap.size + 2 ≤ wr.heap.size
  fa : Duo wr w.heap.size x0 x1
  fr : Duo wr (w.heap.size + 1) r0 r1
theorem Fr2.first (w : World) (x0 x1 r0 r1 : Value) (t u : TypeId) : Fr2 w ((w.alloc (.cells #[x0, x1] t)).alloc (.cells #[r0, r1] u)) x0 x1 r0 r1 := by
  refine ⟨bal (bal (Below.refl _ _) _) _, by simp, ⟨?_, ?_, ?_, ?_⟩, ⟨?_, ?_, ?_, ?_⟩⟩ <;> go_simp
theorem Fr2.nx {w wr w1 : World} {x0 x1 r0 r1 : Value} (h : Fr2 w wr x0 x1 r0 r1) (hb : Below wr.heap.size wr w1) : Fr2 w w1 x0 x1 r0 r1 := by
  have hs := h.sz
  exact ⟨h.bel.trans (hb.mono (by omega)), by have := hb.size; omega, h.fa.below hb (by omega), h.fr.below hb (by omega)⟩
theorem Fr2.dr {w wr : World} {x0 x1 r0 r1 : Value} (h : Fr2 w wr x0 x1 r0 r1) : Fr2 w wr.drew x0 x1 r0 r1 := h.nx (Below.refl _ _).drew
theorem Fr2.parts {w wr : World} {x0 x1 r0 r1 : Value} (h : Fr2 w wr x0 x1 r0 r1) :
    (wr.cell? ⟨w.heap.size, 0, none⟩ = some x0 ∧ wr.cell? ⟨w.heap.size, 1, none⟩ = some x1) ∧
    (wr.cell? ⟨w.heap.size + 1, 0, none⟩ = some r0 ∧ wr.cell? ⟨w.heap.size + 1, 1, none⟩ = some r1 ∧ wr.frozen? ⟨w.heap.size + 1, 0, none⟩ = false ∧ wr.frozen? ⟨w.heap.size + 1, 1, none⟩ = false) ∧ w.heap.size + 1 < wr.heap.size :=
  ⟨⟨h.fa.1, h.fa.2.1⟩, h.fr, by have := h.sz; omega⟩
theorem cell_other {w : World} {g : Nat} {p : Addr} (hp : p.block ≠ g) (u v : Value) : ((w.setCell ⟨g, 0, none⟩ u).setCell ⟨g, 1, none⟩ v).cell? p = w.cell? p := by
  have e : ∀ i : Nat, (⟨g, i, none⟩ : Addr) ≠ p := fun i e => hp (by rw [← e])
  rw [World.cell?_setCell_other _ _ _ _ (e 1), World.cell?_setCell_other _ _ _ _ (e 0)]
theorem Vc.stored {w : World} {B g : Nat} {ad : Addr} {c W N : Nat} (h : Vc w B ad c W N) (hg : ad.block ≠ g) (u v : Value) : Vc ((w.setCell ⟨g, 0, none⟩ u).setCell ⟨g, 1, none⟩ v) B ad c W N := by
  refine ⟨h.w1, h.w2, h.n, h.c1, h.c2, fun i hi => ?_⟩
  obtain ⟨a', e, hlt, hc⟩ := h.rd i hi
  injection e with e; subst e
  exact ⟨_, rfl, hlt, (cell_other (by rw [block_add]; exact hg) u v).trans hc⟩
theorem Vc.size {w w' : World} {ad : Addr} {c W N : Nat} (h : Vc w w.heap.size ad c W N) (hs : w.heap.size ≤ w'.heap.size) (he : ∀ p : Addr, p.block = ad.block → w'.cell? p = w.cell? p) : Vc w' w'.heap.size ad c W N := by
  refine ⟨h.w1, h.w2, h.n, h.c1, h.c2, fun i hi => ?_⟩
  obtain ⟨a', e, hlt, hc⟩ := h.rd i hi
  injection e with e; subst e
  exact ⟨_, rfl, by omega, (he _ (block_add _ _)).trans hc⟩
/-- A vector, as a value. -/
theorem Vc.nx {w w' : World} {ad : Addr} {c W N : Nat} (h : Vc w w.heap.size ad c W N) (hb : Below w.heap.size w w') : Vc w' w'.heap.size ad c W N := (h.below hb).mono hb.size
/-- What is stored as the result is told. -/
theorem RetVec.mk {w w2 : World} {W N c g : Nat} {ad : Addr} {n : Nat} (hn : n = lm W) (hv : Vc w2 w2.heap.size ad c W N) (hb : Below w.heap.size w w2) (hg : w.heap.size ≤ g) (hf : g < ad.block) {r0 r1 : Value} :
    RetVec w W N (.returned (.agg #[.int .i64 W, .slice (some ad) (lm W) c])) ((w2.setCell ⟨g, 0, none⟩ r0).setCell ⟨g, 1, none⟩ r1) :=
  ⟨ad, c, rfl, by have := hv.stored (g := g) (by omega) r0 r1; simpa using this, by omega, (hb.setCell (by simp; omega) _).setCell (by simp; omega) _⟩
/-- One bit, with its numbers written out. -/
def RetBit (w0 : World) (N : Nat) (e : Ending) (w' : World) : Prop := ∃ ad c, e = .returned (.agg #[.int .i64 1, .slice (some ad) 1 c]) ∧ Vc w' w'.heap.size ad c 1 N ∧ w0.heap.size ≤ ad.block ∧ Below w0.heap.size w0 w'
theorem RetVec.bit {w w' : World} {N : Nat} {e : Ending} (h : RetVec w 1 N e w') : RetBit w N e w' := h
theorem RetBit.vec {w w' : World} {N : Nat} {e : Ending} (h : RetBit w N e w') : RetVec w 1 N e w' := h
set_option maxHeartbeats 400000 in
theorem truth_yes (w : World) : Calls Try.prog 64 #[.bool true] w (RetBit w 1) := by
  have H : Hid (∀ wx, Calls Try.prog 34 #[.int .i64 1, .agg #[.int .u64 1, .int .u64 0]] wx (RetBit wx 1)) := fun wx => (vecOf_any (Lim.small 1 (by omega)) 1 (by omega) (by omega) wx).mono fun e w' h => h
  go_enter Try.func64, Try.ntmps64
  go_wp2_with fail
  refine (H.out _).mono ?_
  rintro e w2 ⟨ad, c, rfl, hv, hf, hb⟩
  have hB : Below w.heap.size w w2 := (bal (Below.refl _ _) _).trans (hb.mono (by simp))
  have hf' : w.heap.size < ad.block := by simp at hf; omega
  have hD : Duo w2 w.heap.size (.int .i64 0) (.slice none 0 0) := Duo.below (B := w.heap.size + 1) (w := w.alloc (Obj.cells #[Value.int IntKind.i64 0, Value.slice none 0 0] 24)) (by refine ⟨?_, ?_, ?_, ?_⟩ <;> go_simp) (hb.mono (by simp)) (by omega)
  obtain ⟨d1, d2, d3, d4⟩ := hD
  have hz : w.heap.size < w2.heap.size := World.block_lt_of_cell? w2 _ d1
  clear hb hf H
  go_wp2
  refine bodyPost_ret (v := .agg #[.int .i64 1, .slice (some ad) 1 c]) (by simp [results, Try.results64, go_sem, *]) rfl ?_
  exact RetVec.mk (W := 1) (n := 1) rfl hv hB (Nat.le_refl _) hf'
set_option maxHeartbeats 400000 in
theorem truth_no (w : World) : Calls Try.prog 64 #[.bool false] w (RetBit w 0) := by
  have H : Hid (∀ wx, Calls Try.prog 34 #[.int .i64 1, .agg #[.int .u64 0, .int .u64 0]] wx (RetBit wx 0)) := fun wx => (vecOf_any (Lim.small 0 (by omega)) 1 (by omega) (by omega) wx).mono fun e w' h => h
  go_enter Try.func64, Try.ntmps64
  go_wp2_with fail
  refine (H.out _).mono ?_
  rintro e w2 ⟨ad, c, rfl, hv, hf, hb⟩
  have hB : Below w.heap.size w w2 := (bal (Below.refl _ _) _).trans (hb.mono (by simp))
  have hf' : w.heap.size < ad.block := by simp at hf; omega
  have hD : Duo w2 w.heap.size (.int .i64 0) (.slice none 0 0) := Duo.below (B := w.heap.size + 1) (w := w.alloc (Obj.cells #[Value.int IntKind.i64 0, Value.slice none 0 0] 24)) (by refine ⟨?_, ?_, ?_, ?_⟩ <;> go_simp) (hb.mono (by simp)) (by omega)
  obtain ⟨d1, d2, d3, d4⟩ := hD
  have hz : w.heap.size < w2.heap.size := World.block_lt_of_cell? w2 _ d1
  clear hb hf H
  go_wp2
  refine bodyPost_ret (v := .agg #[.int .i64 1, .slice (some ad) 1 c]) (by simp [results, Try.results64, go_sem, *]) rfl ?_
  exact RetVec.mk (W := 1) (n := 1) rfl hv hB (Nat.le_refl _) hf'
/-- A Bool as a number. -/
def bn (b : Bool) : Nat := if b then 1 else 0
theorem truth_any (b : Bool) (w : World) : Calls Try.prog 64 #[.bool b] w (RetBit w (bn b)) := by
  cases b
  · exact truth_no w
  · exact truth_yes w
end Go.Proofs.Ytnnoflohekmnbaa
