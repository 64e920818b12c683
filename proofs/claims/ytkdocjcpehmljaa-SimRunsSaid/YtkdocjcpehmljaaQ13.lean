/-
  The frame of every statement of this seat: how arguments are opened. Nothing is assumed.
-/
import Derived.Test.YtkdocjcpehmljaaProg
import Derived.WalkKit
import Derived.WalkSpells
import Derived.WalkLawsBesides
import Derived.Lib.Hide
import Derived.BigQuiet
import Derived.Deep.QuietTactic
import Derived.Deep.RegionWith
import Derived.Deep.RegionHeld3
import Derived.Test.YtkdocjcpehmljaaRows
import Derived.Test.YtkdocjcpehmljaaQ03
import Derived.ProofKit
import Derived.OpenShut
import Derived.PinnedBridge
import Derived.Lib.LaidIn
import Derived.Lib.SmallJoins
import Derived.Deep.Slices
import Derived.Deep.SlicePairs
import Derived.Deep.DeepHandedRow
import Derived.Deep.DeepWitnessRowRef
import Derived.SizedLaws
set_option linter.unusedVariables false
namespace Go.Proofs.Ytkdocjcpehmljaa
open Go.RowKit
open Go.Shelf Go.ChangeShapes Go.WideShapes Go.ChangeAt Go.RowKit Go.Lib Go.Joins
theorem own : ownKnob Try.prog.godebug = none := by kernel_rfl
theorem laidOut : laidOutB Try.prog = true := by kernel_rfl
theorem cells3 : Try.prog.cellsOf 3 = 1 := by kernel_rfl
theorem cells4 : Try.prog.cellsOf 4 = 1 := by kernel_rfl
theorem cells5 : Try.prog.cellsOf 5 = 1 := by kernel_rfl
theorem cells9 : Try.prog.cellsOf 9 = 1 := by kernel_rfl
theorem cells22 : Try.prog.cellsOf 22 = 1 := by kernel_rfl
theorem cells23 : Try.prog.cellsOf 23 = 1 := by kernel_rfl
theorem cells24 : Try.prog.cellsOf 24 = 1 := by kernel_rfl
theorem cells25 : Try.prog.cellsOf 25 = 1 := by kernel_rfl
theorem cells28 : Try.prog.cellsOf 28 = 1 := by kernel_rfl
theorem cells29 : Try.prog.cellsOf 29 = 1 := by kernel_rfl
theorem cells27 : Try.prog.cellsOf 27 = 7 := by kernel_rfl
theorem cells58 : Try.prog.cellsOf 58 = 2 := by kernel_rfl
theorem cells63 : Try.prog.cellsOf 63 = 2 := by kernel_rfl
theorem cells84 : Try.prog.cellsOf 84 = 3 := by kernel_rfl
theorem block_lt {w : World} {a : Addr} {v : Value} (h : w.cell? a = some v) : a.block < w.heap.size := by
  rcases Nat.lt_or_ge a.block w.heap.size with h' | h'
  · exact h'
  · simp [World.cell?, Array.getElem?_eq_none h'] at h
/-- A slice of numbers that came in. -/
theorem opened24 {H : Type} {enc : TypeId × Value → H} {W : World} {fuel : Nat} {v : Value} {y : DataW H × List MemPlace} (h : DataW.trod enc Try.prog W 0 (fun _ => true) true fuel 24 [v] = some y) :
    ∃ (A : Option Addr) (c : Nat) (l : List Int), v = .slice A l.length c ∧ RI W W.heap.size A l ∧ l.length ≤ c ∧ c ≤ maxLen ∧ (A = none → c = 0) := by
  rcases open_ints Try.underlying24 Try.underlying3 cells3 h with ⟨hcs, _⟩ | ⟨a, len, cap, zs, hcs, _, hl, hm, hz, _, hcell, hwz⟩
  · simp at hcs
    subst hcs
    exact ⟨none, 0, [], rfl, RI.nil _ _ _, by simp, by unfold maxLen; omega, fun _ => rfl⟩
  · simp at hcs hz
    subst hcs
    have hlen : (zs.take len).length = len := by simp; omega
    refine ⟨some a, cap, zs.take len, by rw [hlen], fun i hi => ?_, by rw [hlen]; exact hl, hm, fun e => by cases e⟩
    rw [hlen] at hi
    have hc := hcell i (by omega)
    refine ⟨a, rfl, by have := block_lt hc; rwa [block_add] at this, ?_⟩
    rw [hc]
    have e2 : (zs.take len).getD i 0 = zs.getD i 0 := by
      simp only [List.getD_eq_getElem?_getD, List.getElem?_take]; rw [if_pos hi]
    rw [e2]
/-- A slice of flags that came in. -/
theorem opened28 {H : Type} {enc : TypeId × Value → H} {W : World} {fuel : Nat} {v : Value} {y : DataW H × List MemPlace} (h : DataW.trod enc Try.prog W 0 (fun _ => true) true fuel 28 [v] = some y) :
    ∃ (A : Option Addr) (c : Nat) (l : List Bool), v = .slice A l.length c ∧ RB W W.heap.size A l ∧ l.length ≤ c ∧ c ≤ maxLen ∧ (A = none → c = 0) := by
  rcases Go.Deep.open_slice1 Try.underlying28 cells4 h with ⟨hcs, _⟩ | ⟨a, len, cap, m, n, V, D, Pl, hcs, _, hl, hm, hmm, _, hx⟩
  · simp at hcs
    subst hcs
    exact ⟨none, 0, [], rfl, fun i hi => absurd hi (by simp), by simp, by unfold maxLen; omega, fun _ => rfl⟩
  · simp at hcs
    subst hcs
    have hle : len ≤ m := by rw [hmm]; split <;> omega
    have hV : ∀ i, i < len → ∃ b, V i = .bool b := by
      intro i hi
      obtain ⟨_, h2⟩ := hx i (by omega)
      obtain ⟨b, hb, _⟩ := DataW.trod_bool Try.underlying4 h2
      exact ⟨b, by simpa using hb⟩
    have hlen : ((List.range len).map fun i => match V i with | .bool b => b | _ => false).length = len := by simp
    refine ⟨some a, cap, (List.range len).map fun i => match V i with | .bool b => b | _ => false, by rw [hlen], fun i hi => ?_, by rw [hlen]; exact hl, hm, fun e => by cases e⟩
    rw [hlen] at hi
    obtain ⟨hc, _⟩ := hx i (by omega)
    obtain ⟨b, hb⟩ := hV i hi
    refine ⟨a, rfl, by have := block_lt hc; rwa [block_add] at this, ?_⟩
    rw [hc, hb]
    simp [List.getD_eq_getElem?_getD, hi, hb]
/-- A slice of rows of flags that came in. -/
theorem opened29 {H : Type} {enc : TypeId × Value → H} {W : World} {fuel : Nat} {v : Value} {y : DataW H × List MemPlace} (h : DataW.trod enc Try.prog W 0 (fun _ => true) true fuel 29 [v] = some y) :
    ∃ (A : Option Addr) (c : Nat) (L : List (List Bool)), v = .slice A L.length c ∧ RR W W.heap.size A L ∧ L.length ≤ c ∧ c ≤ maxLen ∧ (A = none → c = 0) := by
  rcases Go.Deep.open_slice1 Try.underlying29 cells28 h with ⟨hcs, _⟩ | ⟨a, len, cap, m, n, V, D, Pl, hcs, _, hl, hm, hmm, _, hx⟩
  · simp at hcs
    subst hcs
    exact ⟨none, 0, [], rfl, fun i hi => absurd hi (by simp), by simp, by unfold maxLen; omega, fun _ => rfl⟩
  · simp at hcs
    subst hcs
    have hle : len ≤ m := by rw [hmm]; split <;> omega
    have hV : ∀ i, i < len → ∃ (A : Option Addr) (c : Nat) (l : List Bool), V i = .slice A l.length c ∧ RB W W.heap.size A l ∧ l.length ≤ c ∧ c ≤ maxLen ∧ (A = none → c = 0) := by
      intro i hi
      obtain ⟨_, h2⟩ := hx i (by omega)
      obtain ⟨A, c, l, h3, h4, h5, h6, h7⟩ := opened28 h2
      exact ⟨A, c, l, h3, h4, h5, h6, h7⟩
    obtain ⟨F, hF⟩ : ∃ F : Nat → List Bool, ∀ i, i < len → ∃ (A : Option Addr) (c : Nat), V i = .slice A (F i).length c ∧ RB W W.heap.size A (F i) ∧ (F i).length ≤ c ∧ c ≤ maxLen ∧ (A = none → c = 0) := by
      refine ⟨fun i => if h : i < len then Classical.choose (Classical.choose_spec (Classical.choose_spec (hV i h))) else [], fun i hi => ?_⟩
      simp only [dif_pos hi]
      exact ⟨_, _, Classical.choose_spec (Classical.choose_spec (Classical.choose_spec (hV i hi)))⟩
    have hlen : ((List.range len).map F).length = len := by simp
    refine ⟨some a, cap, (List.range len).map F, by rw [hlen], fun i hi => ?_, by rw [hlen]; exact hl, hm, fun e => by cases e⟩
    rw [hlen] at hi
    obtain ⟨hc, _⟩ := hx i (by omega)
    obtain ⟨A', c', h1, h2, h3⟩ := hF i hi
    have e : ((List.range len).map F).getD i [] = F i := by simp [List.getD_eq_getElem?_getD, hi]
    rw [e]
    exact ⟨a, A', c', rfl, by have := block_lt hc; rwa [block_add] at this, by rw [hc, h1], h2, h3⟩
theorem add_one (a : Addr) (i : Nat) : a.add (i * 2 + 1) = ⟨(a.add (i * 2)).block, (a.add (i * 2)).off + 1, none⟩ := by
  by_cases hi : i = 0
  · subst hi; simp [Addr.add]
  · have h1 : i * 2 ≠ 0 := by omega
    unfold Addr.add
    rw [if_neg h1, if_neg (by omega)]
    simp; omega
theorem add_k (a : Addr) (i k : Nat) (hk : 0 < k) : a.add (i * 3 + k) = ⟨(a.add (i * 3)).block, (a.add (i * 3)).off + k, none⟩ := by
  by_cases hi : i = 0
  · subst hi; unfold Addr.add; rw [if_neg (by omega)]; simp
  · unfold Addr.add
    rw [if_neg (by omega), if_neg (by omega)]
    simp; omega
set_option maxRecDepth 100000 in
theorem opened22 {H : Type} {enc : TypeId × Value → H} {W : World} {fuel : Nat} {v : Value} {y : DataW H × List MemPlace} (h : DataW.trod enc Try.prog W 0 (fun _ => true) true fuel 22 [v] = some y) :
    ∃ (A : Option Addr) (c : Nat) (P : List Pr), v = .slice A P.length c ∧ RP W W.heap.size A P ∧ P.length ≤ c ∧ c ≤ maxLen ∧ (A = none → c = 0) := by
  rcases Go.Deep.open_slice_pairs Try.underlying22 Try.underlying63 cells63 (by kernel_rfl) (by kernel_rfl) (by kernel_rfl) (by kernel_rfl) h with ⟨hcs, _⟩ | ⟨a, len, cap, m, n, V0, V1, D0, D1, P0, P1, hcs, _, hl, hm, hmm, _, hx⟩
  · simp at hcs
    subst hcs
    exact ⟨none, 0, [], rfl, fun i hi => absurd hi (by simp), by simp, by unfold maxLen; omega, fun _ => rfl⟩
  · simp at hcs
    subst hcs
    have hle : len ≤ m := by rw [hmm]; split <;> omega
    have hV : ∀ i, i < len → ∃ s : Pr, V0 i = .int .i64 s.1 ∧ V1 i = .int .i64 s.2 := by
      intro i hi
      obtain ⟨_, _, h2, h3⟩ := hx i (by omega)
      obtain ⟨x, e1, _, _⟩ := DataW.trod_int Try.underlying3 h2
      obtain ⟨z, e2, _, _⟩ := DataW.trod_int Try.underlying3 h3
      exact ⟨(x, z), by simpa using e1, by simpa using e2⟩
    obtain ⟨F, hF⟩ : ∃ F : Nat → Pr, ∀ i, i < len → V0 i = .int .i64 (F i).1 ∧ V1 i = .int .i64 (F i).2 := by
      refine ⟨fun i => if h : i < len then Classical.choose (hV i h) else (0, 0), fun i hi => ?_⟩
      simp only [dif_pos hi]
      exact Classical.choose_spec (hV i hi)
    have hlen : ((List.range len).map F).length = len := by simp
    refine ⟨some a, cap, (List.range len).map F, by rw [hlen], fun i hi => ?_, by rw [hlen]; exact hl, hm, fun e => by cases e⟩
    rw [hlen] at hi
    obtain ⟨hc, hc1, _⟩ := hx i (by omega)
    obtain ⟨h0, h1⟩ := hF i hi
    have e : ((List.range len).map F).getD i (0, 0) = F i := by simp [List.getD_eq_getElem?_getD, hi]
    rw [e]
    exact ⟨a, rfl, by have := block_lt hc; rwa [block_add] at this, by rw [hc, h0], by rw [← add_one, hc1, h1]⟩
set_option maxRecDepth 100000 in
theorem opened23 {H : Type} {enc : TypeId × Value → H} {W : World} {fuel : Nat} {v : Value} {y : DataW H × List MemPlace} (h : DataW.trod enc Try.prog W 0 (fun _ => true) true fuel 23 [v] = some y) :
    ∃ (A : Option Addr) (c : Nat) (P : List Pr), v = .slice A P.length c ∧ RP W W.heap.size A P ∧ P.length ≤ c ∧ c ≤ maxLen ∧ (A = none → c = 0) := by
  rcases Go.Deep.open_slice_pairs Try.underlying23 Try.underlying58 cells58 (by kernel_rfl) (by kernel_rfl) (by kernel_rfl) (by kernel_rfl) h with ⟨hcs, _⟩ | ⟨a, len, cap, m, n, V0, V1, D0, D1, P0, P1, hcs, _, hl, hm, hmm, _, hx⟩
  · simp at hcs
    subst hcs
    exact ⟨none, 0, [], rfl, fun i hi => absurd hi (by simp), by simp, by unfold maxLen; omega, fun _ => rfl⟩
  · simp at hcs
    subst hcs
    have hle : len ≤ m := by rw [hmm]; split <;> omega
    have hV : ∀ i, i < len → ∃ s : Pr, V0 i = .int .i64 s.1 ∧ V1 i = .int .i64 s.2 := by
      intro i hi
      obtain ⟨_, _, h2, h3⟩ := hx i (by omega)
      obtain ⟨x, e1, _, _⟩ := DataW.trod_int Try.underlying3 h2
      obtain ⟨z, e2, _, _⟩ := DataW.trod_int Try.underlying3 h3
      exact ⟨(x, z), by simpa using e1, by simpa using e2⟩
    obtain ⟨F, hF⟩ : ∃ F : Nat → Pr, ∀ i, i < len → V0 i = .int .i64 (F i).1 ∧ V1 i = .int .i64 (F i).2 := by
      refine ⟨fun i => if h : i < len then Classical.choose (hV i h) else (0, 0), fun i hi => ?_⟩
      simp only [dif_pos hi]
      exact Classical.choose_spec (hV i hi)
    have hlen : ((List.range len).map F).length = len := by simp
    refine ⟨some a, cap, (List.range len).map F, by rw [hlen], fun i hi => ?_, by rw [hlen]; exact hl, hm, fun e => by cases e⟩
    rw [hlen] at hi
    obtain ⟨hc, hc1, _⟩ := hx i (by omega)
    obtain ⟨h0, h1⟩ := hF i hi
    have e : ((List.range len).map F).getD i (0, 0) = F i := by simp [List.getD_eq_getElem?_getD, hi]
    rw [e]
    exact ⟨a, rfl, by have := block_lt hc; rwa [block_add] at this, by rw [hc, h0], by rw [← add_one, hc1, h1]⟩
set_option maxRecDepth 100000 in
theorem opened25 {H : Type} {enc : TypeId × Value → H} {W : World} {fuel : Nat} {v : Value} {y : DataW H × List MemPlace} (h : DataW.trod enc Try.prog W 0 (fun _ => true) true fuel 25 [v] = some y) :
    ∃ (A : Option Addr) (c : Nat) (P : List Nm), v = .slice A P.length c ∧ RN W W.heap.size A P ∧ P.length ≤ c ∧ c ≤ maxLen := by
  rcases Go.Deep.open_slice Try.underlying25 h with ⟨hcs, _⟩ | ⟨a, len, cap, m, n, D, Pl, hcs, _, hl, hm, hmm, _, hx⟩
  · simp at hcs
    subst hcs
    exact ⟨none, 0, [], rfl, fun i hi => absurd hi (by simp), by simp, by unfold maxLen; omega⟩
  · simp at hcs
    subst hcs
    have hle : len ≤ m := by rw [hmm]; split <;> omega
    have hV : ∀ i, i < len → ∃ s : Nm, W.cell? (a.add (i * 3)) = some (.int .u8 (s.k.toNat : Int)) ∧ W.cell? (a.add (i * 3 + 1)) = some (.int .i64 s.at_) ∧ W.cell? (a.add (i * 3 + 2)) = some (.string s.s) ∧ s.s.size ≤ maxLen := by
      intro i hi
      obtain ⟨cs', h1, h2⟩ := hx i (by omega)
      rw [cells84] at h1
      obtain ⟨_, hlen, hcell⟩ := World.cells?_some h1
      match cs', hlen with
      | [v0, v1, v2], _ =>
        obtain ⟨y0, y1, y2, n', hxx, _, g0, g1, g2⟩ := Go.Deep.trod_struct3 Try.underlying84 h2
        simp only [cells5, cells3, cells9] at g0 g1 g2
        have g0' : DataW.trod enc Try.prog W 0 (fun _ => true) true n' 5 [v0] = some y0 := g0
        have g1' : DataW.trod enc Try.prog W 0 (fun _ => true) true n' 3 [v1] = some y1 := g1
        have g2' : DataW.trod enc Try.prog W 0 (fun _ => true) true n' 9 [v2] = some y2 := g2
        obtain ⟨q, e0, _, wq⟩ := DataW.trod_int Try.underlying5 g0'
        obtain ⟨x, e1, _, _⟩ := DataW.trod_int Try.underlying3 g1'
        obtain ⟨s, e2, _, ws⟩ := DataW.trod_string Try.underlying9 g2'
        simp at e0 e1 e2
        subst e0; subst e1; subst e2
        have hb := bounds_u8 wq
        have c0 := hcell 0 (by omega)
        have c1 := hcell 1 (by omega)
        have c2 := hcell 2 (by omega)
        rw [add_add_] at c0 c1 c2
        refine ⟨⟨UInt8.ofNat q.toNat, x, s⟩, ?_, ?_, ?_, ws⟩
        · have e3 : ((UInt8.ofNat q.toNat).toNat : Int) = q := by rw [UInt8.toNat_ofNat']; omega
          rw [e3]; simpa using c0
        · simpa using c1
        · simpa using c2
    obtain ⟨F, hF⟩ : ∃ F : Nat → Nm, ∀ i, i < len → W.cell? (a.add (i * 3)) = some (.int .u8 ((F i).k.toNat : Int)) ∧ W.cell? (a.add (i * 3 + 1)) = some (.int .i64 (F i).at_) ∧ W.cell? (a.add (i * 3 + 2)) = some (.string (F i).s) ∧ (F i).s.size ≤ maxLen := by
      refine ⟨fun i => if h : i < len then Classical.choose (hV i h) else nm0, fun i hi => ?_⟩
      simp only [dif_pos hi]
      exact Classical.choose_spec (hV i hi)
    have hlen : ((List.range len).map F).length = len := by simp
    refine ⟨some a, cap, (List.range len).map F, by rw [hlen], fun i hi => ?_, by rw [hlen]; exact hl, hm⟩
    rw [hlen] at hi
    obtain ⟨h0, h1, h2, h3⟩ := hF i hi
    have e : ((List.range len).map F).getD i nm0 = F i := by simp [List.getD_eq_getElem?_getD, hi]
    rw [e]
    exact ⟨a, rfl, by have := block_lt h0; rwa [block_add] at this, h0, by rw [← add_k _ _ _ (by omega), h1], by rw [← add_k _ _ _ (by omega), h2], h3⟩
/-- A model that came in: seven cells. -/
theorem opened_aig {H : Type} {enc : TypeId × Value → H} {W : World} {fuel : Nat} {v0 v1 v2 v3 v4 v5 v6 : Value} {y : DataW H × List MemPlace} (h : DataW.trod enc Try.prog W 0 (fun _ => true) true fuel 27 [v0, v1, v2, v3, v4, v5, v6] = some y) :
    ∃ (I : Int) (AL AG AO AB AC AN : Option Addr) (cL cG cO cB cC cN : Nat) (L G : List Pr) (O D C : List Int) (N : List Nm), #[v0, v1, v2, v3, v4, v5, v6] = #[.int .i64 I, .slice AL L.length cL, .slice AG G.length cG, .slice AO O.length cO, .slice AB D.length cB, .slice AC C.length cC, .slice AN N.length cN] ∧ RA W W.heap.size AL AG AO AB AC AN L G O D C N ∧ (L.length ≤ cL ∧ G.length ≤ cG ∧ O.length ≤ cO ∧ D.length ≤ cB ∧ C.length ≤ cC ∧ N.length ≤ cN) ∧ (cL ≤ maxLen ∧ cG ≤ maxLen ∧ cO ≤ maxLen ∧ cB ≤ maxLen ∧ cC ≤ maxLen ∧ cN ≤ maxLen) ∧ (AG = none → cG = 0) ∧ (AO = none → cO = 0) ∧ (AB = none → cB = 0) ∧ (AC = none → cC = 0) := by
  obtain ⟨xs, k, hk, hxy, _, hxl, hf⟩ := DataW.trod_struct Try.underlying27 h
  match xs, hxl with
  | [y0, y1, y2, y3, y4, y5, y6], _ =>
    have g0 := hf 0 _ rfl
    have g1 := hf 1 _ rfl
    have g2 := hf 2 _ rfl
    have g3 := hf 3 _ rfl
    have g4 := hf 4 _ rfl
    have g5 := hf 5 _ rfl
    have g6 := hf 6 _ rfl
    simp [cells3, cells22, cells23, cells24, cells25] at g0 g1 g2 g3 g4 g5 g6
    obtain ⟨i, e0, _, _⟩ := DataW.trod_int Try.underlying3 g0
    obtain ⟨AL, cL, L, rfl, r1, n1, m1, _⟩ := opened22 g1
    obtain ⟨AG, cG, G, rfl, r2, n2, m2, z2⟩ := opened23 g2
    obtain ⟨AO, cO, O, rfl, r3, n3, m3, z3⟩ := opened24 g3
    obtain ⟨AB, cB, D, rfl, r4, n4, m4, z4⟩ := opened24 g4
    obtain ⟨AC, cC, C, rfl, r5, n5, m5, z5⟩ := opened24 g5
    obtain ⟨AN, cN, N, rfl, r6, n6, m6⟩ := opened25 g6
    simp at e0
    subst e0
    exact ⟨i, AL, AG, AO, AB, AC, AN, cL, cG, cO, cB, cC, cN, L, G, O, D, C, N, rfl, ⟨r1, r2, r3, r4, r5, r6⟩, ⟨n1, n2, n3, n4, n5, n6⟩, ⟨m1, m2, m3, m4, m5, m6⟩, z2, z3, z4, z5⟩
/-- A first world, for the witness. -/
noncomputable def firstWorld (os : Os) : World := World.holding Try.prog os ⟨#[], #[], []⟩
theorem none_met (w : World) : laidMet Try.prog [] w := ⟨[], by first | exact ⟨rfl⟩ | exact rfl | exact trivial | constructor, List.nodup_nil, fun b off h => by cases h⟩
theorem opened_arr {H : Type} {enc : TypeId × Value → H} {W : World} {fuel : Nat} {cs : Array Value} {y : DataW H × List MemPlace} (hsz : cs.size = Try.prog.cellsOf 27) (h : DataW.trod enc Try.prog W 0 (fun _ => true) true fuel 27 (Value.agg cs).cells.toList = some y) :
    ∃ (I : Int) (AL AG AO AB AC AN : Option Addr) (cL cG cO cB cC cN : Nat) (L G : List Pr) (O D C : List Int) (N : List Nm), cs = #[.int .i64 I, .slice AL L.length cL, .slice AG G.length cG, .slice AO O.length cO, .slice AB D.length cB, .slice AC C.length cC, .slice AN N.length cN] ∧ RA W W.heap.size AL AG AO AB AC AN L G O D C N ∧ (L.length ≤ cL ∧ G.length ≤ cG ∧ O.length ≤ cO ∧ D.length ≤ cB ∧ C.length ≤ cC ∧ N.length ≤ cN) ∧ (cL ≤ maxLen ∧ cG ≤ maxLen ∧ cO ≤ maxLen ∧ cB ≤ maxLen ∧ cC ≤ maxLen ∧ cN ≤ maxLen) ∧ (AG = none → cG = 0) ∧ (AO = none → cO = 0) ∧ (AB = none → cB = 0) ∧ (AC = none → cC = 0) := by
  obtain ⟨l⟩ := cs
  match l, hsz.trans cells27 with
  | [v0, v1, v2, v3, v4, v5, v6], _ => exact opened_aig h
end Go.Proofs.Ytkdocjcpehmljaa
