/-
  The frame of every statement of this seat: the tables in a first world, what the row's list gives, and how arguments are opened. Nothing is assumed.
-/
import Derived.Test.YtplcabecbofjpaaDoorCards
import Derived.Test.YtplcabecbofjpaaDoorTie
import Derived.Test.YtplcabecbofjpaaDoorT3
import Derived.ProofKit
import Derived.OpenShut
import Derived.PinnedBridge
import Derived.Lib.LaidIn
import Derived.Lib.LaidTab
import Derived.Lib.LaidU8
import Derived.Lib.SmallJoins
import Derived.Deep.Slices
import Derived.Deep.DeepHandedRow
import Derived.Deep.DeepWitnessRowRef
import Derived.SizedLaws
set_option linter.unusedVariables false
namespace Go.Proofs.YtplcabecbofjpaaDoor
open Go.Shelf Go.ChangeShapes Go.WideShapes Go.ChangeAt Go.RowKit Go.Lib Go.Joins
theorem own : ownKnob Tryd.prog.godebug = none := by kernel_rfl
theorem laidOut : laidOutB Tryd.prog = true := by kernel_rfl
/-- What every row of this seat lists. -/
def listed : List (String × DataW Unit) := Rows.cnfTellsRow.laid
theorem pow_eq : (Rows.laid_internal_strconv_uint64pow10 : DataW Unit) = Lib.tabData .u64 Lib.pow10Tab := by kernel_rfl
theorem pow_of_laid {W : World} (hL : laidMetH Tryd.prog listed W) : Pow W.heap.size W := by
  have h3 := Lib.laidMet.reads hL (List.Mem.tail _ (List.Mem.tail _ (List.Mem.head _)))
  rw [pow_eq] at h3
  obtain ⟨g, t, cs, fuel, p, h1, h2, h4, h5⟩ := h3
  have hg : Tryd.prog.globalNamed "internal/strconv.uint64pow10" = some 0 := by kernel_rfl
  obtain rfl : 0 = g := Option.some.inj (hg.symm.trans h1)
  have ht : (Tryd.prog.globals[0]?).map (·.type) = some 179 := by kernel_rfl
  obtain rfl : 179 = t := Option.some.inj (ht.symm.trans h2)
  have hcs := Lib.cells_of_tab Tryd.underlying179 Tryd.underlying163 (by kernel_rfl) (by kernel_rfl) h5
  refine ⟨?_, 0, hg, ?_⟩
  · unfold Lib.TabIs; rw [h4, ← hcs]
  · rcases Nat.eq_zero_or_pos W.heap.size with h0 | h0
    · unfold World.var? at h4
      simp only [hg, Option.bind_some] at h4
      rw [Array.getElem?_eq_none (by omega)] at h4
      simp at h4
    · exact h0
/-- The cells of a table, off its datum. -/
def cellsD : DataW Unit → Array Value
  | .agg l => (l.map fun | .lit (.int k z) => Value.int k z | _ => Value.nilIface).toArray
  | _ => #[]
/-- A first world for the witness: the three tables hold what their text lays. -/
noncomputable def laidWorld (os : Os) : World :=
  let w0 := World.holding Tryd.prog os ⟨#[], #[], []⟩
  let put (h : Array Obj) (g : Nat) (cs : Array Value) : Array Obj := h.modify g fun
    | .cells _ t frozen => .cells cs t frozen
    | o => o
  let h0 := put w0.heap 0 (cellsD Rows.laid_internal_strconv_uint64pow10)
  let h1 := put h0 1 (cellsD Rows.laid_math_bits_deBruijn32tab)
  let h2 := put h1 2 (cellsD Rows.laid_math_bits_deBruijn64tab)
  { w0 with heap := h2 }
theorem laid_met (os : Os) (args : Array Value) : laidMet Tryd.prog listed ((laidWorld os).forCall (fun _ _ => 0) ⟨#[], args, []⟩).memory :=
  (LaidIn.of_run (l := listed) [1, 2, 0] 8 (by kernel_rfl) (by kernel_rfl) (by kernel_rfl) (by kernel_rfl)).met
theorem cells3 : Tryd.prog.cellsOf 3 = 1 := by kernel_rfl
theorem cells4 : Tryd.prog.cellsOf 4 = 1 := by kernel_rfl
theorem cells5 : Tryd.prog.cellsOf 5 = 1 := by kernel_rfl
theorem cells50 : Tryd.prog.cellsOf 50 = 1 := by kernel_rfl
theorem block_lt {w : World} {a : Addr} {v : Value} (h : w.cell? a = some v) : a.block < w.heap.size := by
  rcases Nat.lt_or_ge a.block w.heap.size with h' | h'
  · exact h'
  · simp [World.cell?, Array.getElem?_eq_none h'] at h
/-- A slice of bytes that came in. -/
theorem opened25 {H : Type} {enc : TypeId × Value → H} {W : World} {fuel : Nat} {v : Value} {y : DataW H × List MemPlace} (h : DataW.trod enc Tryd.prog W 0 (fun _ => true) true fuel 25 [v] = some y) :
    ∃ (A : Option Addr) (c : Nat) (l : List UInt8), v = .slice A l.length c ∧ Rd W W.heap.size A l ∧ l.length ≤ c ∧ c ≤ maxLen ∧ (A = none → c = 0) := by
  rcases open_ints Tryd.underlying25 Tryd.underlying5 cells5 h with ⟨hcs, _⟩ | ⟨a, len, cap, zs, hcs, _, hl, hm, hz, _, hcell, hwz⟩
  · simp at hcs
    subst hcs
    exact ⟨none, 0, [], rfl, Rd.nil _ _ _, by simp, by unfold maxLen; omega, fun _ => rfl⟩
  · simp at hcs hz
    subst hcs
    have hlen : ((zs.take len).map fun z => UInt8.ofNat z.toNat).length = len := by simp; omega
    refine ⟨some a, cap, (zs.take len).map fun z => UInt8.ofNat z.toNat, by rw [hlen], fun i hi => ?_, by rw [hlen]; exact hl, hm, fun e => by cases e⟩
    rw [hlen] at hi
    have hc := hcell i (by omega)
    refine ⟨a, rfl, by have := block_lt hc; rwa [block_add] at this, ?_⟩
    rw [hc]
    have hi2 : i < zs.length := by omega
    have hw := hwz zs[i] (List.getElem_mem hi2)
    have hb := bounds_u8 hw
    have e1 : zs.getD i 0 = zs[i] := by simp [List.getD_eq_getElem?_getD, hi2]
    have e2 : ((zs.take len).map fun z => UInt8.ofNat z.toNat).getD i 0 = UInt8.ofNat zs[i].toNat := by
      simp [List.getD_eq_getElem?_getD, hi, hi2]
    rw [e1, e2]
    have e3 : (UInt8.ofNat zs[i].toNat).toNat = zs[i].toNat := by rw [UInt8.toNat_ofNat']; omega
    rw [e3]
    congr 2
    omega
/-- A slice of numbers that came in. -/
theorem opened50 {H : Type} {enc : TypeId × Value → H} {W : World} {fuel : Nat} {v : Value} {y : DataW H × List MemPlace} (h : DataW.trod enc Tryd.prog W 0 (fun _ => true) true fuel 50 [v] = some y) :
    ∃ (A : Option Addr) (c : Nat) (l : List Int), v = .slice A l.length c ∧ RI W W.heap.size A l ∧ l.length ≤ c ∧ c ≤ maxLen ∧ (A = none → c = 0) := by
  rcases open_ints Tryd.underlying50 Tryd.underlying3 cells3 h with ⟨hcs, _⟩ | ⟨a, len, cap, zs, hcs, _, hl, hm, hz, _, hcell, hwz⟩
  · simp at hcs
    subst hcs
    exact ⟨none, 0, [], rfl, RI.nil _ _ _, by simp, by unfold maxLen; omega, fun _ => rfl⟩
  · simp at hcs hz
    subst hcs
    have hlen : (zs.take len).length = len := by simp; omega
    refine ⟨some a, cap, zs.take len, by rw [hlen], fun i hi => ?_, by rw [hlen]; exact hl, hm, fun e => by cases e⟩
    rw [hlen] at hi
    have hc := hcell i (by omega)
    refine ⟨a, rfl, by have := block_lt hc; rwa [block_add] at this, ?_⟩
    rw [hc]
    have e2 : (zs.take len).getD i 0 = zs.getD i 0 := by
      simp only [List.getD_eq_getElem?_getD, List.getElem?_take]; rw [if_pos hi]
    rw [e2]
/-- A slice of flags that came in. -/
theorem opened40 {H : Type} {enc : TypeId × Value → H} {W : World} {fuel : Nat} {v : Value} {y : DataW H × List MemPlace} (h : DataW.trod enc Tryd.prog W 0 (fun _ => true) true fuel 40 [v] = some y) :
    ∃ (A : Option Addr) (c : Nat) (l : List Bool), v = .slice A l.length c ∧ RB W W.heap.size A l ∧ l.length ≤ c ∧ c ≤ maxLen ∧ (A = none → c = 0) := by
  rcases Go.Deep.open_slice1 Tryd.underlying40 cells4 h with ⟨hcs, _⟩ | ⟨a, len, cap, m, n, V, D, Pl, hcs, _, hl, hm, hmm, _, hx⟩
  · simp at hcs
    subst hcs
    exact ⟨none, 0, [], rfl, fun i hi => absurd hi (by simp), by simp, by unfold maxLen; omega, fun _ => rfl⟩
  · simp at hcs
    subst hcs
    have hle : len ≤ m := by rw [hmm]; split <;> omega
    have hV : ∀ i, i < len → ∃ b, V i = .bool b := by
      intro i hi
      obtain ⟨_, h2⟩ := hx i (by omega)
      obtain ⟨b, hb, _⟩ := DataW.trod_bool Tryd.underlying4 h2
      exact ⟨b, by simpa using hb⟩
    have hlen : ((List.range len).map fun i => match V i with | .bool b => b | _ => false).length = len := by simp
    refine ⟨some a, cap, (List.range len).map fun i => match V i with | .bool b => b | _ => false, by rw [hlen], fun i hi => ?_, by rw [hlen]; exact hl, hm, fun e => by cases e⟩
    rw [hlen] at hi
    obtain ⟨hc, _⟩ := hx i (by omega)
    obtain ⟨b, hb⟩ := hV i hi
    refine ⟨a, rfl, by have := block_lt hc; rwa [block_add] at this, ?_⟩
    rw [hc, hb]
    simp [List.getD_eq_getElem?_getD, hi, hb]
/-- A slice of clauses that came in. -/
theorem opened22 {H : Type} {enc : TypeId × Value → H} {W : World} {fuel : Nat} {v : Value} {y : DataW H × List MemPlace} (h : DataW.trod enc Tryd.prog W 0 (fun _ => true) true fuel 22 [v] = some y) :
    ∃ (A : Option Addr) (c : Nat) (L : List (List Int)), v = .slice A L.length c ∧ RC W W.heap.size A L ∧ L.length ≤ c ∧ c ≤ maxLen ∧ (A = none → c = 0) := by
  rcases Go.Deep.open_slice1 Tryd.underlying22 cells50 h with ⟨hcs, _⟩ | ⟨a, len, cap, m, n, V, D, Pl, hcs, _, hl, hm, hmm, _, hx⟩
  · simp at hcs
    subst hcs
    exact ⟨none, 0, [], rfl, fun i hi => absurd hi (by simp), by simp, by unfold maxLen; omega, fun _ => rfl⟩
  · simp at hcs
    subst hcs
    have hle : len ≤ m := by rw [hmm]; split <;> omega
    have hV : ∀ i, i < len → ∃ (A : Option Addr) (c : Nat) (l : List Int), V i = .slice A l.length c ∧ RI W W.heap.size A l ∧ l.length ≤ maxLen := by
      intro i hi
      obtain ⟨_, h2⟩ := hx i (by omega)
      obtain ⟨A, c, l, h3, h4, h5, h6, _⟩ := opened50 h2
      exact ⟨A, c, l, h3, h4, by omega⟩
    obtain ⟨F, hF⟩ : ∃ F : Nat → List Int, ∀ i, i < len → ∃ (A : Option Addr) (c : Nat), V i = .slice A (F i).length c ∧ RI W W.heap.size A (F i) ∧ (F i).length ≤ maxLen := by
      refine ⟨fun i => if h : i < len then Classical.choose (Classical.choose_spec (Classical.choose_spec (hV i h))) else [], fun i hi => ?_⟩
      simp only [dif_pos hi]
      exact ⟨_, _, Classical.choose_spec (Classical.choose_spec (Classical.choose_spec (hV i hi)))⟩
    have hlen : ((List.range len).map F).length = len := by simp
    refine ⟨some a, cap, (List.range len).map F, by rw [hlen], fun i hi => ?_, by rw [hlen]; exact hl, hm, fun e => by cases e⟩
    rw [hlen] at hi
    obtain ⟨hc, _⟩ := hx i (by omega)
    obtain ⟨A', c', h1, h2, h3⟩ := hF i hi
    have e : ((List.range len).map F).getD i [] = F i := by simp [List.getD_eq_getElem?_getD, hi]
    rw [e]
    exact ⟨a, A', c', rfl, by have := block_lt hc; rwa [block_add] at this, by rw [hc, h1], h2, h3⟩
set_option maxRecDepth 100000 in
/-- A formula that came in. -/
theorem opened24 {H : Type} {enc : TypeId × Value → H} {W : World} {r : Reach} {b0 : Nat} {v : Value} {d : DataW H} {p : List MemPlace} (hv : Value.okWide Tryd.prog W r b0 24 v) (h : DataW.Trod enc Tryd.prog W 0 (fun _ => true) true 24 v d p) :
    ∃ (N : Int) (A : Option Addr) (c : Nat) (L : List (List Int)), v = .agg #[.int .i64 N, .slice A L.length c] ∧ RC W W.heap.size A L ∧ L.length ≤ c ∧ c ≤ maxLen ∧ (A = none → c = 0) := by
  obtain ⟨v0, v1, y0, y1, n, rfl, hd, hp, h0, h1⟩ := open_agg2 Tryd.underlying24 (by kernel_rfl) (by kernel_rfl) hv h
  obtain ⟨k, e1, _, wk⟩ := DataW.trod_int Tryd.underlying3 h0
  obtain ⟨A, c, l, rfl, hrd, hn, hc, hA⟩ := opened22 h1
  simp at e1
  subst e1
  exact ⟨k, A, c, l, rfl, hrd, hn, hc, hA⟩
end Go.Proofs.YtplcabecbofjpaaDoor
