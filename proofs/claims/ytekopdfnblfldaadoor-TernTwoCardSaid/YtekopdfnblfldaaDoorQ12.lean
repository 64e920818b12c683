/-
  The frame of every statement of this seat: the table of And in a first world, and how each argument is opened. Nothing is assumed.
-/
import Derived.Test.YtekopdfnblfldaaDoorProg
import Derived.WalkKit
import Derived.WalkSpells
import Derived.WalkLawsBesides
import Derived.Lib.Hide
import Derived.BigQuiet
import Derived.Deep.QuietTactic
import Derived.Deep.RegionWith
import Derived.Deep.RegionHeld3
import Derived.Test.YtekopdfnblfldaaDoorQ11
import Derived.Test.YtekopdfnblfldaaDoorCards
import Derived.Test.YtekopdfnblfldaaDoorTie
import Derived.ProofKit
import Derived.OpenShut
import Derived.PinnedBridge
import Derived.Lib.LaidIn
import Derived.Lib.LaidTab
import Derived.Lib.LaidU8
import Derived.Lib.SmallJoins
import Derived.Deep.Slices
import Derived.Deep.SlicePairs
import Derived.Deep.DeepHandedRow
import Derived.Deep.DeepWitnessRowRef
import Derived.SizedLaws
set_option linter.unusedVariables false
namespace Go.Proofs.YtekopdfnblfldaaDoor
open Go.RowKit
open Go.Shelf Go.ChangeShapes Go.WideShapes Go.ChangeAt Go.RowKit Go.Lib Go.Joins
theorem own : ownKnob Tryd.prog.godebug = none := by kernel_rfl
theorem laidOut : laidOutB Tryd.prog = true := by kernel_rfl
theorem cells3 : Tryd.prog.cellsOf 3 = 1 := by kernel_rfl
theorem cells4 : Tryd.prog.cellsOf 4 = 1 := by kernel_rfl
theorem cells5 : Tryd.prog.cellsOf 5 = 1 := by kernel_rfl
theorem cells9 : Tryd.prog.cellsOf 9 = 1 := by kernel_rfl
theorem cells30 : Tryd.prog.cellsOf 30 = 1 := by kernel_rfl
theorem cells31 : Tryd.prog.cellsOf 31 = 1 := by kernel_rfl
theorem cells32 : Tryd.prog.cellsOf 32 = 1 := by kernel_rfl
theorem cells33 : Tryd.prog.cellsOf 33 = 1 := by kernel_rfl
theorem cells53 : Tryd.prog.cellsOf 53 = 1 := by kernel_rfl
theorem cells35 : Tryd.prog.cellsOf 35 = 7 := by kernel_rfl
theorem cells68 : Tryd.prog.cellsOf 68 = 2 := by kernel_rfl
theorem cells91 : Tryd.prog.cellsOf 91 = 2 := by kernel_rfl
theorem cells107 : Tryd.prog.cellsOf 107 = 3 := by kernel_rfl
theorem block_lt {w : World} {a : Addr} {v : Value} (h : w.cell? a = some v) : a.block < w.heap.size := by
  rcases Nat.lt_or_ge a.block w.heap.size with h' | h'
  · exact h'
  · simp [World.cell?, Array.getElem?_eq_none h'] at h
/-- A slice of numbers that came in. -/
theorem opened32 {H : Type} {enc : TypeId × Value → H} {W : World} {fuel : Nat} {v : Value} {y : DataW H × List MemPlace} (h : DataW.trod enc Tryd.prog W 0 (fun _ => true) true fuel 32 [v] = some y) :
    ∃ (A : Option Addr) (c : Nat) (l : List Int), v = .slice A l.length c ∧ RI W W.heap.size A l ∧ l.length ≤ c ∧ c ≤ maxLen ∧ (A = none → c = 0) := by
  rcases open_ints Tryd.underlying32 Tryd.underlying3 cells3 h with ⟨hcs, _⟩ | ⟨a, len, cap, zs, hcs, _, hl, hm, hz, _, hcell, hwz⟩
  · simp at hcs
    subst hcs
    exact ⟨none, 0, [], rfl, RI.nil _ _ _, by simp, by unfold maxLen; omega, fun _ => rfl⟩
  · simp at hcs hz
    subst hcs
    have hlen : (zs.take len).length = len := by simp; omega
    refine ⟨some a, cap, zs.take len, by rw [hlen], fun i hi => ?_, by rw [hlen]; exact hl, hm, fun e => by cases e⟩
    rw [hlen] at hi
    have hc := hcell i (by omega)
    refine ⟨a, rfl, by have := block_lt hc; rwa [block_add] at this, ?_⟩
    rw [hc]
    have e2 : (zs.take len).getD i 0 = zs.getD i 0 := by
      simp only [List.getD_eq_getElem?_getD, List.getElem?_take]; rw [if_pos hi]
    rw [e2]
/-- A slice of flags that came in. -/
theorem opened53 {H : Type} {enc : TypeId × Value → H} {W : World} {fuel : Nat} {v : Value} {y : DataW H × List MemPlace} (h : DataW.trod enc Tryd.prog W 0 (fun _ => true) true fuel 53 [v] = some y) :
    ∃ (A : Option Addr) (c : Nat) (l : List Bool), v = .slice A l.length c ∧ RB W W.heap.size A l ∧ l.length ≤ c ∧ c ≤ maxLen ∧ (A = none → c = 0) := by
  rcases Go.Deep.open_slice1 Tryd.underlying53 cells4 h with ⟨hcs, _⟩ | ⟨a, len, cap, m, n, V, D, Pl, hcs, _, hl, hm, hmm, _, hx⟩
  · simp at hcs
    subst hcs
    exact ⟨none, 0, [], rfl, fun i hi => absurd hi (by simp), by simp, by unfold maxLen; omega, fun _ => rfl⟩
  · simp at hcs
    subst hcs
    have hle : len ≤ m := by rw [hmm]; split <;> omega
    have hV : ∀ i, i < len → ∃ b, V i = .bool b := by
      intro i hi
      obtain ⟨_, h2⟩ := hx i (by omega)
      obtain ⟨b, hb, _⟩ := DataW.trod_bool Tryd.underlying4 h2
      exact ⟨b, by simpa using hb⟩
    have hlen : ((List.range len).map fun i => match V i with | .bool b => b | _ => false).length = len := by simp
    refine ⟨some a, cap, (List.range len).map fun i => match V i with | .bool b => b | _ => false, by rw [hlen], fun i hi => ?_, by rw [hlen]; exact hl, hm, fun e => by cases e⟩
    rw [hlen] at hi
    obtain ⟨hc, _⟩ := hx i (by omega)
    obtain ⟨b, hb⟩ := hV i hi
    refine ⟨a, rfl, by have := block_lt hc; rwa [block_add] at this, ?_⟩
    rw [hc, hb]
    simp [List.getD_eq_getElem?_getD, hi, hb]
theorem add_one (a : Addr) (i : Nat) : a.add (i * 2 + 1) = ⟨(a.add (i * 2)).block, (a.add (i * 2)).off + 1, none⟩ := by
  by_cases hi : i = 0
  · subst hi; simp [Addr.add]
  · have h1 : i * 2 ≠ 0 := by omega
    unfold Addr.add
    rw [if_neg h1, if_neg (by omega)]
    simp; omega
theorem add_k (a : Addr) (i k : Nat) (hk : 0 < k) : a.add (i * 3 + k) = ⟨(a.add (i * 3)).block, (a.add (i * 3)).off + k, none⟩ := by
  by_cases hi : i = 0
  · subst hi; unfold Addr.add; rw [if_neg (by omega)]; simp
  · unfold Addr.add
    rw [if_neg (by omega), if_neg (by omega)]
    simp; omega
set_option maxRecDepth 100000 in
theorem opened30 {H : Type} {enc : TypeId × Value → H} {W : World} {fuel : Nat} {v : Value} {y : DataW H × List MemPlace} (h : DataW.trod enc Tryd.prog W 0 (fun _ => true) true fuel 30 [v] = some y) :
    ∃ (A : Option Addr) (c : Nat) (P : List Pr), v = .slice A P.length c ∧ RP W W.heap.size A P ∧ P.length ≤ c ∧ c ≤ maxLen ∧ (A = none → c = 0) := by
  rcases Go.Deep.open_slice_pairs Tryd.underlying30 Tryd.underlying91 cells91 (by kernel_rfl) (by kernel_rfl) (by kernel_rfl) (by kernel_rfl) h with ⟨hcs, _⟩ | ⟨a, len, cap, m, n, V0, V1, D0, D1, P0, P1, hcs, _, hl, hm, hmm, _, hx⟩
  · simp at hcs
    subst hcs
    exact ⟨none, 0, [], rfl, fun i hi => absurd hi (by simp), by simp, by unfold maxLen; omega, fun _ => rfl⟩
  · simp at hcs
    subst hcs
    have hle : len ≤ m := by rw [hmm]; split <;> omega
    have hV : ∀ i, i < len → ∃ s : Pr, V0 i = .int .i64 s.1 ∧ V1 i = .int .i64 s.2 := by
      intro i hi
      obtain ⟨_, _, h2, h3⟩ := hx i (by omega)
      obtain ⟨x, e1, _, _⟩ := DataW.trod_int Tryd.underlying3 h2
      obtain ⟨z, e2, _, _⟩ := DataW.trod_int Tryd.underlying3 h3
      exact ⟨(x, z), by simpa using e1, by simpa using e2⟩
    obtain ⟨F, hF⟩ : ∃ F : Nat → Pr, ∀ i, i < len → V0 i = .int .i64 (F i).1 ∧ V1 i = .int .i64 (F i).2 := by
      refine ⟨fun i => if h : i < len then Classical.choose (hV i h) else (0, 0), fun i hi => ?_⟩
      simp only [dif_pos hi]
      exact Classical.choose_spec (hV i hi)
    have hlen : ((List.range len).map F).length = len := by simp
    refine ⟨some a, cap, (List.range len).map F, by rw [hlen], fun i hi => ?_, by rw [hlen]; exact hl, hm, fun e => by cases e⟩
    rw [hlen] at hi
    obtain ⟨hc, hc1, _⟩ := hx i (by omega)
    obtain ⟨h0, h1⟩ := hF i hi
    have e : ((List.range len).map F).getD i (0, 0) = F i := by simp [List.getD_eq_getElem?_getD, hi]
    rw [e]
    exact ⟨a, rfl, by have := block_lt hc; rwa [block_add] at this, by rw [hc, h0], by rw [← add_one, hc1, h1]⟩
set_option maxRecDepth 100000 in
theorem opened31 {H : Type} {enc : TypeId × Value → H} {W : World} {fuel : Nat} {v : Value} {y : DataW H × List MemPlace} (h : DataW.trod enc Tryd.prog W 0 (fun _ => true) true fuel 31 [v] = some y) :
    ∃ (A : Option Addr) (c : Nat) (P : List Pr), v = .slice A P.length c ∧ RP W W.heap.size A P ∧ P.length ≤ c ∧ c ≤ maxLen ∧ (A = none → c = 0) := by
  rcases Go.Deep.open_slice_pairs Tryd.underlying31 Tryd.underlying68 cells68 (by kernel_rfl) (by kernel_rfl) (by kernel_rfl) (by kernel_rfl) h with ⟨hcs, _⟩ | ⟨a, len, cap, m, n, V0, V1, D0, D1, P0, P1, hcs, _, hl, hm, hmm, _, hx⟩
  · simp at hcs
    subst hcs
    exact ⟨none, 0, [], rfl, fun i hi => absurd hi (by simp), by simp, by unfold maxLen; omega, fun _ => rfl⟩
  · simp at hcs
    subst hcs
    have hle : len ≤ m := by rw [hmm]; split <;> omega
    have hV : ∀ i, i < len → ∃ s : Pr, V0 i = .int .i64 s.1 ∧ V1 i = .int .i64 s.2 := by
      intro i hi
      obtain ⟨_, _, h2, h3⟩ := hx i (by omega)
      obtain ⟨x, e1, _, _⟩ := DataW.trod_int Tryd.underlying3 h2
      obtain ⟨z, e2, _, _⟩ := DataW.trod_int Tryd.underlying3 h3
      exact ⟨(x, z), by simpa using e1, by simpa using e2⟩
    obtain ⟨F, hF⟩ : ∃ F : Nat → Pr, ∀ i, i < len → V0 i = .int .i64 (F i).1 ∧ V1 i = .int .i64 (F i).2 := by
      refine ⟨fun i => if h : i < len then Classical.choose (hV i h) else (0, 0), fun i hi => ?_⟩
      simp only [dif_pos hi]
      exact Classical.choose_spec (hV i hi)
    have hlen : ((List.range len).map F).length = len := by simp
    refine ⟨some a, cap, (List.range len).map F, by rw [hlen], fun i hi => ?_, by rw [hlen]; exact hl, hm, fun e => by cases e⟩
    rw [hlen] at hi
    obtain ⟨hc, hc1, _⟩ := hx i (by omega)
    obtain ⟨h0, h1⟩ := hF i hi
    have e : ((List.range len).map F).getD i (0, 0) = F i := by simp [List.getD_eq_getElem?_getD, hi]
    rw [e]
    exact ⟨a, rfl, by have := block_lt hc; rwa [block_add] at this, by rw [hc, h0], by rw [← add_one, hc1, h1]⟩
set_option maxRecDepth 100000 in
theorem opened33 {H : Type} {enc : TypeId × Value → H} {W : World} {fuel : Nat} {v : Value} {y : DataW H × List MemPlace} (h : DataW.trod enc Tryd.prog W 0 (fun _ => true) true fuel 33 [v] = some y) :
    ∃ (A : Option Addr) (c : Nat) (P : List Nm), v = .slice A P.length c ∧ RN W W.heap.size A P ∧ P.length ≤ c ∧ c ≤ maxLen := by
  rcases Go.Deep.open_slice Tryd.underlying33 h with ⟨hcs, _⟩ | ⟨a, len, cap, m, n, D, Pl, hcs, _, hl, hm, hmm, _, hx⟩
  · simp at hcs
    subst hcs
    exact ⟨none, 0, [], rfl, fun i hi => absurd hi (by simp), by simp, by unfold maxLen; omega⟩
  · simp at hcs
    subst hcs
    have hle : len ≤ m := by rw [hmm]; split <;> omega
    have hV : ∀ i, i < len → ∃ s : Nm, W.cell? (a.add (i * 3)) = some (.int .u8 (s.k.toNat : Int)) ∧ W.cell? (a.add (i * 3 + 1)) = some (.int .i64 s.at_) ∧ W.cell? (a.add (i * 3 + 2)) = some (.string s.s) ∧ s.s.size ≤ maxLen := by
      intro i hi
      obtain ⟨cs', h1, h2⟩ := hx i (by omega)
      rw [cells107] at h1
      obtain ⟨_, hlen, hcell⟩ := World.cells?_some h1
      match cs', hlen with
      | [v0, v1, v2], _ =>
        obtain ⟨y0, y1, y2, n', hxx, _, g0, g1, g2⟩ := Go.Deep.trod_struct3 Tryd.underlying107 h2
        simp only [cells5, cells3, cells9] at g0 g1 g2
        have g0' : DataW.trod enc Tryd.prog W 0 (fun _ => true) true n' 5 [v0] = some y0 := g0
        have g1' : DataW.trod enc Tryd.prog W 0 (fun _ => true) true n' 3 [v1] = some y1 := g1
        have g2' : DataW.trod enc Tryd.prog W 0 (fun _ => true) true n' 9 [v2] = some y2 := g2
        obtain ⟨q, e0, _, wq⟩ := DataW.trod_int Tryd.underlying5 g0'
        obtain ⟨x, e1, _, _⟩ := DataW.trod_int Tryd.underlying3 g1'
        obtain ⟨s, e2, _, ws⟩ := DataW.trod_string Tryd.underlying9 g2'
        simp at e0 e1 e2
        subst e0; subst e1; subst e2
        have hb := bounds_u8 wq
        have c0 := hcell 0 (by omega)
        have c1 := hcell 1 (by omega)
        have c2 := hcell 2 (by omega)
        rw [add_add_] at c0 c1 c2
        refine ⟨⟨UInt8.ofNat q.toNat, x, s⟩, ?_, ?_, ?_, ws⟩
        · have e3 : ((UInt8.ofNat q.toNat).toNat : Int) = q := by rw [UInt8.toNat_ofNat']; omega
          rw [e3]; simpa using c0
        · simpa using c1
        · simpa using c2
    obtain ⟨F, hF⟩ : ∃ F : Nat → Nm, ∀ i, i < len → W.cell? (a.add (i * 3)) = some (.int .u8 ((F i).k.toNat : Int)) ∧ W.cell? (a.add (i * 3 + 1)) = some (.int .i64 (F i).at_) ∧ W.cell? (a.add (i * 3 + 2)) = some (.string (F i).s) ∧ (F i).s.size ≤ maxLen := by
      refine ⟨fun i => if h : i < len then Classical.choose (hV i h) else nm0, fun i hi => ?_⟩
      simp only [dif_pos hi]
      exact Classical.choose_spec (hV i hi)
    have hlen : ((List.range len).map F).length = len := by simp
    refine ⟨some a, cap, (List.range len).map F, by rw [hlen], fun i hi => ?_, by rw [hlen]; exact hl, hm⟩
    rw [hlen] at hi
    obtain ⟨h0, h1, h2, h3⟩ := hF i hi
    have e : ((List.range len).map F).getD i nm0 = F i := by simp [List.getD_eq_getElem?_getD, hi]
    rw [e]
    exact ⟨a, rfl, by have := block_lt h0; rwa [block_add] at this, h0, by rw [← add_k _ _ _ (by omega), h1], by rw [← add_k _ _ _ (by omega), h2], h3⟩
/-- A model that came in: seven cells. -/
theorem opened_aig {H : Type} {enc : TypeId × Value → H} {W : World} {fuel : Nat} {v0 v1 v2 v3 v4 v5 v6 : Value} {y : DataW H × List MemPlace} (h : DataW.trod enc Tryd.prog W 0 (fun _ => true) true fuel 35 [v0, v1, v2, v3, v4, v5, v6] = some y) :
    ∃ (I : Int) (AL AG AO AB AC AN : Option Addr) (cL cG cO cB cC cN : Nat) (L G : List Pr) (O D C : List Int) (N : List Nm), #[v0, v1, v2, v3, v4, v5, v6] = #[.int .i64 I, .slice AL L.length cL, .slice AG G.length cG, .slice AO O.length cO, .slice AB D.length cB, .slice AC C.length cC, .slice AN N.length cN] ∧ RA W W.heap.size AL AG AO AB AC AN L G O D C N ∧ (L.length ≤ cL ∧ G.length ≤ cG ∧ O.length ≤ cO ∧ D.length ≤ cB ∧ C.length ≤ cC ∧ N.length ≤ cN) ∧ (cL ≤ maxLen ∧ cG ≤ maxLen ∧ cO ≤ maxLen ∧ cB ≤ maxLen ∧ cC ≤ maxLen ∧ cN ≤ maxLen) ∧ (AG = none → cG = 0) ∧ (AO = none → cO = 0) ∧ (AB = none → cB = 0) ∧ (AC = none → cC = 0) := by
  obtain ⟨xs, k, hk, hxy, _, hxl, hf⟩ := DataW.trod_struct Tryd.underlying35 h
  match xs, hxl with
  | [y0, y1, y2, y3, y4, y5, y6], _ =>
    have g0 := hf 0 _ rfl
    have g1 := hf 1 _ rfl
    have g2 := hf 2 _ rfl
    have g3 := hf 3 _ rfl
    have g4 := hf 4 _ rfl
    have g5 := hf 5 _ rfl
    have g6 := hf 6 _ rfl
    simp [cells3, cells30, cells31, cells32, cells33] at g0 g1 g2 g3 g4 g5 g6
    obtain ⟨i, e0, _, _⟩ := DataW.trod_int Tryd.underlying3 g0
    obtain ⟨AL, cL, L, rfl, r1, n1, m1, _⟩ := opened30 g1
    obtain ⟨AG, cG, G, rfl, r2, n2, m2, z2⟩ := opened31 g2
    obtain ⟨AO, cO, O, rfl, r3, n3, m3, z3⟩ := opened32 g3
    obtain ⟨AB, cB, D, rfl, r4, n4, m4, z4⟩ := opened32 g4
    obtain ⟨AC, cC, C, rfl, r5, n5, m5, z5⟩ := opened32 g5
    obtain ⟨AN, cN, N, rfl, r6, n6, m6⟩ := opened33 g6
    simp at e0
    subst e0
    exact ⟨i, AL, AG, AO, AB, AC, AN, cL, cG, cO, cB, cC, cN, L, G, O, D, C, N, rfl, ⟨r1, r2, r3, r4, r5, r6⟩, ⟨n1, n2, n3, n4, n5, n6⟩, ⟨m1, m2, m3, m4, m5, m6⟩, z2, z3, z4, z5⟩
theorem opened_arr {H : Type} {enc : TypeId × Value → H} {W : World} {fuel : Nat} {cs : Array Value} {y : DataW H × List MemPlace} (hsz : cs.size = Tryd.prog.cellsOf 35) (h : DataW.trod enc Tryd.prog W 0 (fun _ => true) true fuel 35 (Value.agg cs).cells.toList = some y) :
    ∃ (I : Int) (AL AG AO AB AC AN : Option Addr) (cL cG cO cB cC cN : Nat) (L G : List Pr) (O D C : List Int) (N : List Nm), cs = #[.int .i64 I, .slice AL L.length cL, .slice AG G.length cG, .slice AO O.length cO, .slice AB D.length cB, .slice AC C.length cC, .slice AN N.length cN] ∧ RA W W.heap.size AL AG AO AB AC AN L G O D C N ∧ (L.length ≤ cL ∧ G.length ≤ cG ∧ O.length ≤ cO ∧ D.length ≤ cB ∧ C.length ≤ cC ∧ N.length ≤ cN) ∧ (cL ≤ maxLen ∧ cG ≤ maxLen ∧ cO ≤ maxLen ∧ cB ≤ maxLen ∧ cC ≤ maxLen ∧ cN ≤ maxLen) ∧ (AG = none → cG = 0) ∧ (AO = none → cO = 0) ∧ (AB = none → cB = 0) ∧ (AC = none → cC = 0) := by
  obtain ⟨l⟩ := cs
  match l, hsz.trans cells35 with
  | [v0, v1, v2, v3, v4, v5, v6], _ => exact opened_aig h

theorem cells22 : Tryd.prog.cellsOf 22 = 1 := by kernel_rfl
theorem cells25 : Tryd.prog.cellsOf 25 = 1 := by kernel_rfl
theorem cells71 : Tryd.prog.cellsOf 71 = 3 := by kernel_rfl
theorem cells72 : Tryd.prog.cellsOf 72 = 9 := by kernel_rfl
/-- A slice of values that came in. -/
theorem opened22 {H : Type} {enc : TypeId × Value → H} {W : World} {fuel : Nat} {v : Value} {y : DataW H × List MemPlace} (h : DataW.trod enc Tryd.prog W 0 (fun _ => true) true fuel 22 [v] = some y) :
    ∃ (A : Option Addr) (c : Nat) (l : List Int), v = .slice A l.length c ∧ RT W W.heap.size A l ∧ l.length ≤ c ∧ c ≤ maxLen ∧ (A = none → c = 0) ∧ Nn l := by
  rcases open_ints Tryd.underlying22 Tryd.underlying25 cells25 h with ⟨hcs, _⟩ | ⟨a, len, cap, zs, hcs, _, hl, hm, hz, _, hcell, hwz⟩
  · simp at hcs
    subst hcs
    exact ⟨none, 0, [], rfl, RT.nil _ _ _, by simp, by unfold maxLen; omega, fun _ => rfl, by intro x hx; cases hx⟩
  · simp at hcs hz
    subst hcs
    have hlen : (zs.take len).length = len := by simp; omega
    refine ⟨some a, cap, zs.take len, by rw [hlen], fun i hi => ?_, by rw [hlen]; exact hl, hm, (fun e => by cases e), fun x hx => (bounds_u8 (hwz x (List.mem_of_mem_take hx))).1⟩
    rw [hlen] at hi
    have hc := hcell i (by omega)
    refine ⟨a, rfl, by have := block_lt hc; rwa [block_add] at this, ?_⟩
    rw [hc]
    simp [List.getD_eq_getElem?_getD, hi]
def listed : List (String × DataW Unit) := Rows.ternTellsRow.laid
set_option maxRecDepth 100000 in
theorem tb_of_laid {W : World} (hL : laidMetH Tryd.prog listed W) : TB W := by
  have h1 := Lib.laidMet.reads hL (List.Mem.head _)
  obtain ⟨g, t, cs, fuel, p, hg, hty, hv, hd⟩ := h1
  obtain rfl : 0 = g := Option.some.inj ((show Tryd.prog.globalNamed "vidimus/tern.ands" = some 0 by kernel_rfl).symm.trans hg)
  obtain rfl : 72 = t := Option.some.inj ((show (Tryd.prog.globals[0]?).map (·.type) = some 72 by kernel_rfl).symm.trans hty)
  obtain ⟨xs, m, rfl, hx, hl, hxl, hf⟩ := DataW.trod_array Tryd.underlying72 hd
  match xs, hxl with
  | [a0, a1, a2], _ =>
    simp only [Rows.laid_vidimus_tern_ands, Prod.mk.injEq, DataW.agg.injEq, List.map_cons, List.map_nil, List.cons.injEq, and_true] at hx
    obtain ⟨⟨e0, e1, e2⟩, _⟩ := hx
    have f0 := hf 0 (by omega)
    have f1 := hf 1 (by omega)
    have f2 := hf 2 (by omega)
    rw [cells71] at f0 f1 f2
    obtain ⟨b0, p0⟩ := a0
    obtain ⟨b1, p1⟩ := a1
    obtain ⟨b2, p2⟩ := a2
    simp only at e0 e1 e2
    subst e0 e1 e2
    have c0 := Lib.cells_of_tab (k := .u8) (zs := [0, 0, 0]) Tryd.underlying71 Tryd.underlying25 cells25 cells71 f0
    have c1 := Lib.cells_of_tab (k := .u8) (zs := [0, 1, 2]) Tryd.underlying71 Tryd.underlying25 cells25 cells71 f1
    have c2 := Lib.cells_of_tab (k := .u8) (zs := [0, 2, 2]) Tryd.underlying71 Tryd.underlying25 cells25 cells71 f2
    rw [cells72] at hl
    obtain ⟨lst⟩ := cs
    match lst, hl with
    | [v0, v1, v2, v3, v4, v5, v6, v7, v8], _ =>
      simp at c0 c1 c2
      obtain ⟨rfl, rfl, rfl⟩ := c0
      obtain ⟨rfl, rfl, rfl⟩ := c1
      obtain ⟨rfl, rfl, rfl⟩ := c2
      have hc := fun i => World.var?_cell hg hv i
      refine ⟨fun i j hi hj => ?_, ?_⟩
      · rw [hc]
        have hi' : i = 0 ∨ i = 1 ∨ i = 2 := by omega
        have hj' : j = 0 ∨ j = 1 ∨ j = 2 := by omega
        rcases hi' with rfl | rfl | rfl <;> rcases hj' with rfl | rfl | rfl <;> rfl
      · have := hc 0
        exact block_lt (a := ⟨0, 0, none⟩) (v := .int .u8 0) (by rw [this]; rfl)
/-- A first world for the witness: the table holds what its text lays. -/
noncomputable def laidWorld (os : Os) : World :=
  let w0 := World.holding Tryd.prog os ⟨#[], #[], []⟩
  let put (h : Array Obj) (g : Nat) (cs : Array Value) : Array Obj := h.modify g fun
    | .cells _ t frozen => .cells cs t frozen
    | o => o
  { w0 with heap := put w0.heap 0 #[.int .u8 0, .int .u8 0, .int .u8 0, .int .u8 0, .int .u8 1, .int .u8 2, .int .u8 0, .int .u8 2, .int .u8 2] }
theorem laid_met (os : Os) (args : Array Value) : laidMet Tryd.prog listed ((laidWorld os).forCall (fun _ _ => 0) ⟨#[], args, []⟩).memory :=
  (LaidIn.of_run (l := listed) [0] 8 (by kernel_rfl) (by kernel_rfl) (by kernel_rfl) (by kernel_rfl)).met
end Go.Proofs.YtekopdfnblfldaaDoor
