/-
  Slices of values of three kinds, as they are read; rows of a call's own.
  Values of three kinds: what Not, And, a literal and a model's gates come to; plain mathematics.
  Not, And, a literal's value, of one value.
  What may be told of values is told through closures.
-/
import Derived.Test.YtekopdfnblfldaaDoorProg
import Derived.WalkKit
import Derived.WalkSpells
import Derived.WalkLawsBesides
import Derived.Lib.Hide
import Derived.BigQuiet
import Derived.Deep.QuietTactic
import Derived.Deep.RegionWith
import Derived.Deep.RegionHeld3
import Derived.Test.YtekopdfnblfldaaDoorQ01
import Derived.Laws.CopyOwn
import Derived.Lib.LaidTab
import Derived.Deep.LoopGhost
import Derived.WalkMore
import Derived.Laws.EntriesVeiled
set_option linter.unusedVariables false
/- Slices of values of three kinds, as they are read; rows of a call's own. -/
namespace Go.Proofs.YtekopdfnblfldaaDoor
open Go.RowKit
/-- The slice at A holds the values l, in a block below B. -/
def RT (w : World) (B : Nat) (A : Option Addr) (l : List Int) : Prop :=
  ∀ i, i < l.length → ∃ ad, A = some ad ∧ ad.block < B ∧ w.cell? (ad.add i) = some (.int .u8 (l.getD i 0))
theorem RT.below {w w' : World} {B : Nat} {A : Option Addr} {l : List Int} (h : RT w B A l) (hb : Below B w w') : RT w' B A l := by
  intro i hi
  obtain ⟨ad, e, hlt, hc⟩ := h i hi
  exact ⟨ad, e, hlt, (hb.cell (by rw [block_add]; exact hlt)).trans hc⟩
theorem RT.mono {w : World} {B B' : Nat} {A : Option Addr} {l : List Int} (h : RT w B A l) (hB : B ≤ B') : RT w B' A l := by
  intro i hi
  obtain ⟨ad, e, hlt, hc⟩ := h i hi
  exact ⟨ad, e, by omega, hc⟩
theorem RT.nx {w w' : World} {A : Option Addr} {l : List Int} (h : RT w w.heap.size A l) (hb : Below w.heap.size w w') : RT w' w'.heap.size A l := (h.below hb).mono hb.size
theorem RT.nil (w : World) (B : Nat) (A : Option Addr) : RT w B A [] := fun i hi => absurd hi (by simp)
theorem dropT (l : List Int) (k : Nat) (h : k < l.length) : l.drop k = l.getD k 0 :: l.drop (k + 1) := by
  rw [List.drop_eq_getElem_cons h]; simp [List.getD, h]
theorem tri_info : (Tryd.prog.info? 25).map (fun i => (i.zero, i.size, i.bytes)) = some (some (.int .u8 0), 1, 1) := by kernel_rfl
/-- A row of values that a call made for itself. -/
def OwnT (w : World) (base : Nat) (v : Value) (l : List Int) : Prop := w.ownsRow base 25 1 v l.length (l.map (Value.int .u8))
theorem OwnT.nil (w : World) (base : Nat) : OwnT w base (.slice none 0 0) [] := World.ownsRow_nil _ _ _ _
theorem OwnT.val {w : World} {base : Nat} {v : Value} {l : List Int} (h : OwnT w base v l) : ∃ (A : Option Addr) (c : Nat), v = .slice A l.length c ∧ RT w w.heap.size A l ∧ (A = none → c = 0) ∧ l.length ≤ c ∧ c ≤ maxLen := by
  rcases h.2 with ⟨rfl, h0⟩ | ⟨g, cap, cur, rfl, hg, hh, h1, h2, h3, h4⟩
  · have : l = [] := List.eq_nil_of_length_eq_zero h0
    subst this
    exact ⟨none, 0, rfl, RT.nil _ _ _, fun _ => rfl, by simp, by unfold maxLen; omega⟩
  · refine ⟨_, cap, rfl, fun i hi => ⟨_, rfl, (World.ownsRow.lt h g rfl).2, ?_⟩, (fun e => by cases e), h1, h2⟩
    rw [add_loc, World.ownsRow.cellAt h i (by omega)]
    simp [List.getD_eq_getElem?_getD, hi]
theorem OwnT.old {w w' : World} {base : Nat} {v : Value} {l : List Int} (h : OwnT w base v l) (hb : Below w.heap.size w w') : OwnT w' base v l := by
  refine World.ownsRow.kept h (row := none) ?_ ?_
  · exact ⟨hb.os, hb.tape, hb.output, hb.size, fun k hk _ => hb.block k hk⟩
  · cases hv : v.ownBlock with
    | none => exact .inl rfl
    | some k => exact .inr (by simp)
/-- 'append(s, b)'. -/
theorem wpT1 {z w : World} {ops : Array Oper} {rest : List Oper} {o : Oper} {a : Act} {Q : Exit → Act → World → Prop} (hgd : o.guard = none) (s x : Operand)
    (ho : o.op = .call { callee := .builtin .append, args := #[s, x], argTypes := #[22, 22] })
    (v : Value) (l : List Int) (hs : a.eval s = v) (hown : OwnT w z.heap.size v l) (y : Int) (hx : a.eval x = .slice (some ⟨w.heap.size, 0, none⟩) 1 1) (hb : Below z.heap.size z w)
    (hsz : l.length ≤ 3000000000)
    (h : ∀ v' w', OwnT w' z.heap.size v' (l ++ [y]) → Below z.heap.size z w' → wpList Tryd.prog ops Q rest (a.put o.dst v') w') : wpList Tryd.prog ops Q (o :: rest) a (w.alloc (.cells #[.int .u8 y] 25)) := by
  obtain ⟨i0, hi0, hz0, hz1, hz2⟩ := info_parts tri_info
  have hbs := hb.size
  refine wpList_append_own _ hgd s x 22 ho z.heap.size 25 i0 (.int .u8 0) 1 1 Tryd.underlying22 hi0 hz0 hz1 hz2 rfl (by omega) v l.length (l.map (Value.int .u8)) hs (World.ownsRow.alloc hown _) ⟨w.heap.size, 0, none⟩ 1 1 [.int .u8 y] hx rfl (cell_one_new _ _ _) ?_ (by unfold maxLen; omega) (by omega) (by simp; omega) ?_
  · intro u hu; simp at hu; subst hu; rfl
  · intro v' w' hown' hg _
    refine h v' w' ?_ ((hb.alloc hbs _).grown hg (by simp; omega) (fun k hk => ((World.ownsRow.lt hown) k hk).1))
    unfold OwnT
    simpa using hown'
/-- 'append(s, l...)', behind other memory of the call's own. -/
theorem wpTs {z w : World} {ops : Array Oper} {rest : List Oper} {o : Oper} {a : Act} {Q : Exit → Act → World → Prop} (hgd : o.guard = none) (s x : Operand)
    (ho : o.op = .call { callee := .builtin .append, args := #[s, x], argTypes := #[22, 22] })
    (base : Nat) (v : Value) (l : List Int) (hs : a.eval s = v) (hown : OwnT w base v l) (A : Option Addr) (c : Nat) (m : List Int) (hx : a.eval x = .slice A m.length c) (hr : RT w w.heap.size A m) (hbase : base ≤ w.heap.size) (hz : z.heap.size ≤ base) (hb : Below z.heap.size z w)
    (hn : l.length + m.length ≤ 3000000000) (hA : A = none → c = 0)
    (h : ∀ v' w', OwnT w' base v' (l ++ m) → Below base w w' → wpList Tryd.prog ops Q rest (a.put o.dst v') w') : wpList Tryd.prog ops Q (o :: rest) a w := by
  obtain ⟨i0, hi0, hz0, hz1, hz2⟩ := info_parts tri_info
  cases A with
  | none =>
    have h0 : m = [] := by
      cases m with
      | nil => rfl
      | cons x l => obtain ⟨ad, e, _⟩ := hr 0 (by simp); cases e
    subst h0
    obtain rfl := hA rfl
    refine wpList_append_own_none hgd s x 22 ho base 25 i0 1 Tryd.underlying22 hi0 v l.length (l.map (Value.int .u8)) hs hown hx ?_
    have := h v w (by simpa using hown) (Below.refl _ _)
    exact this
  | some ad =>
    refine wpList_append_own _ hgd s x 22 ho base 25 i0 (.int .u8 0) 1 1 Tryd.underlying22 hi0 hz0 hz1 hz2 rfl (by omega) v l.length (l.map (Value.int .u8)) hs hown ad m.length c (m.map (Value.int .u8)) hx (by simp) ?_ ?_ (by unfold maxLen; omega) (by omega) hbase ?_
    · intro j u hj
      have hjl : j < m.length := by
        have := (List.getElem?_eq_some_iff.1 hj).1
        simpa using this
      obtain ⟨ad', e, _, hc⟩ := hr j hjl
      cases e
      rw [hc]
      simp [hjl] at hj
      rw [← hj]
      simp [List.getD_eq_getElem?_getD, hjl]
    · intro u hu; obtain ⟨x, _, rfl⟩ := List.mem_map.1 hu; rfl
    · intro v' w' hown' hg _
      refine h v' w' ?_ ((Below.refl base w).grown hg hbase (fun k hk => ((World.ownsRow.lt hown) k hk).1))
      unfold OwnT
      simpa using hown'
/-- A block of values. -/
def BT (w : World) (g : Nat) (M : List Int) : Prop := w.heap[g]? = some (.cells (M.map (Value.int .u8)).toArray 25 (0, 0))
theorem BT.cell {w : World} {g : Nat} {M : List Int} (h : BT w g M) (j : Nat) (hj : j < M.length) : w.cell? ⟨g, j, none⟩ = some (.int .u8 (M.getD j 0)) := by
  rw [cell_of_row w g j _ _ _ h]
  simp [List.getD_eq_getElem?_getD, hj]
theorem BT.frozen {w : World} {g : Nat} {M : List Int} (h : BT w g M) (j : Nat) : w.frozen? ⟨g, j, none⟩ = false := frozen_of_row w g j _ _ h
theorem BT.lt {w : World} {g : Nat} {M : List Int} (h : BT w g M) : g < w.heap.size := (Array.getElem?_eq_some_iff.1 h).1
theorem BT.store {w : World} {g : Nat} {M : List Int} (h : BT w g M) (j : Nat) (b : Int) : BT (w.setCell ⟨g, j, none⟩ (.int .u8 b)) g (M.set j b) := by
  have := heap_setCell_same w g j _ 25 (.int .u8 b) h
  unfold BT
  rw [this]
  simp [List.map_set]
theorem BT.below {w w' : World} {B g : Nat} {M : List Int} (h : BT w g M) (hb : Below B w w') (hg : g < B) : BT w' g M := (hb.block g hg).trans h
theorem BT.rb {w : World} {g : Nat} {M : List Int} (h : BT w g M) : RT w w.heap.size (some ⟨g, 0, none⟩) M := fun i hi => ⟨_, rfl, h.lt, by rw [add_loc]; exact h.cell i hi⟩
/-- A call that tells a row of values. -/
def RetR (w0 : World) (l : List Int) (e : Ending) (w' : World) : Prop := ∃ A c, e = .returned (.slice A l.length c) ∧ RT w' w'.heap.size A l ∧ (A = none → c = 0) ∧ l.length ≤ c ∧ c ≤ maxLen ∧ Below w0.heap.size w0 w'
/-- A call that tells a row of values, and no error. -/
def RetR0 (w0 : World) (l : List Int) (x : Int) (e : Ending) (w' : World) : Prop := ∃ A c, e = .returned (.tuple #[.slice A l.length c, .int .i64 x]) ∧ RT w' w'.heap.size A l ∧ (A = none → c = 0) ∧ l.length ≤ c ∧ c ≤ maxLen ∧ Below w0.heap.size w0 w'
def mkOT (n : Nat) : Obj := .cells (madeCells #[.int .u8 0] n) 25
theorem mkT (T : TypeId) (hT : Tryd.prog.underlying T = some (.slice 25)) (n : Nat) (K : Int) (hK : K = (n : Int)) (hn : n ≤ 100000000) (w : World) : (Instr.makeSlice T (.int .i64 K) (.int .i64 K)).run Tryd.prog w = .ok (.slice (some ⟨w.heap.size, 0, none⟩) n n) (w.alloc (mkOT n)) := by
  subst hK
  obtain ⟨i0, hi0, hz0, hz1, hz2⟩ := info_parts tri_info
  rw [run_make w T 25 i0 _ hT hi0 hz0 .i64 .i64 n n (by omega) (by omega) (by rw [hz2]; omega) (by omega), hz1]
  simp [Value.cells, mkOT]
theorem bt_made (w : World) (n : Nat) : BT (w.alloc (mkOT n)) w.heap.size (List.replicate n 0) := by
  unfold BT mkOT
  rw [heap_alloc_new]
  have hl := toList_madeCells_one (.int .u8 0) n
  have : madeCells #[Value.int .u8 0] n = ((List.replicate n 0).map (Value.int .u8)).toArray := by
    apply Array.ext'
    rw [hl]; simp
  rw [this]
theorem BT.alloc {w : World} {g : Nat} {M : List Int} (h : BT w g M) (o : Obj) : BT (w.alloc o) g M := (heap_alloc_old w o h.lt).trans h
theorem map_spliceT (L m : List Int) (off : Nat) : splice (L.map (Value.int .u8)) off (m.map (Value.int .u8)) = (splice L off m).map (Value.int .u8) := by
  simp [splice, List.map_take, List.map_drop]
theorem splice_midT (P Q R q : List Int) (h : q.length = Q.length) : splice (P ++ (Q ++ R)) P.length q = P ++ (q ++ R) := by
  unfold splice
  rw [List.take_left, h, ← List.drop_drop, List.drop_left, List.drop_left]
theorem splice_twoT (i s : List Int) (g : Nat) : splice (splice (List.replicate (i.length + s.length + g + 1) (0 : Int)) 1 i) (1 + i.length) s = ((0 : Int) :: (i ++ s)) ++ List.replicate g (0 : Int) := by
  have e1 : List.replicate (i.length + s.length + g + 1) (0 : Int) = [(0 : Int)] ++ (List.replicate i.length (0 : Int) ++ List.replicate (s.length + g) (0 : Int)) := by
    rw [List.replicate_append_replicate, show i.length + s.length + g + 1 = (i.length + (s.length + g)) + 1 by omega, List.replicate_succ]; rfl
  have h1 := splice_midT [(0 : Int)] (List.replicate i.length (0 : Int)) (List.replicate (s.length + g) (0 : Int)) i (by simp)
  rw [e1, show (1 : Nat) = [(0 : Int)].length from rfl, h1]
  have h2 := splice_midT ((0 : Int) :: i) (List.replicate s.length (0 : Int)) (List.replicate g (0 : Int)) s (by simp)
  rw [List.replicate_append_replicate] at h2
  have e2 : [(0 : Int)].length + i.length = ((0 : Int) :: i).length := by simp; omega
  rw [e2]
  have e3 : [(0 : Int)] ++ (i ++ List.replicate (s.length + g) (0 : Int)) = ((0 : Int) :: i) ++ List.replicate (s.length + g) (0 : Int) := rfl
  rw [e3, h2]
  simp
end Go.Proofs.YtekopdfnblfldaaDoor
/- Values of three kinds: what Not, And, a literal and a model's gates come to; plain mathematics. -/
namespace Go.Proofs.YtekopdfnblfldaaDoor
open Go.RowKit
def not3 (x : Int) : Int := if x = 0 then 1 else if x = 1 then 0 else 2
def and3 (x y : Int) : Int := if x = 0 ∨ y = 0 then 0 else if x = 1 ∧ y = 1 then 1 else 2
/-- What a literal is. -/
def lt3 (v : List Int) (l : Int) : Int := if l < 0 ∨ (v.length : Int) ≤ l / 2 then 2 else if l % 2 = 1 then not3 (v.getD (l / 2).toNat 0) else v.getD (l / 2).toNat 0
/-- Gates' values behind others. -/
def vals3 : List Int → List Pr → List Int
  | b, [] => b
  | b, g :: G => vals3 (b ++ [and3 (lt3 b g.1) (lt3 b g.2)]) G
theorem vals3_length (b : List Int) (G : List Pr) : (vals3 b G).length = b.length + G.length := by
  induction G generalizing b with
  | nil => simp [vals3]
  | cons g G ih => rw [vals3, ih]; simp; omega
theorem lt3_neg (v : List Int) {l : Int} (h : l < 0) : lt3 v l = 2 := by unfold lt3; rw [if_pos (.inl h)]
theorem lt3_far (v : List Int) {l : Int} (h : (v.length : Int) ≤ l / 2) : lt3 v l = 2 := by unfold lt3; rw [if_pos (.inr h)]
theorem lt3_in (v : List Int) {l : Int} (h0 : 0 ≤ l) (h : l / 2 < (v.length : Int)) : lt3 v l = if l % 2 = 1 then not3 (v.getD (l / 2).toNat 0) else v.getD (l / 2).toNat 0 := by unfold lt3; rw [if_neg (by omega)]
theorem lit_parts3 (v : List Int) (l : Int) (h0 : 0 ≤ l) (h : l / 2 < (v.length : Int)) : ∃ j : Nat, j < v.length ∧ (j : Int) < v.length ∧ l.tdiv 2 = (j : Int) ∧ l / 2 = (j : Int) ∧ l.tmod 2 = l % 2 ∧ lt3 v l = if l % 2 = 1 then not3 (v.getD j 0) else v.getD j 0 := by
  have e1 : l.tdiv 2 = l / 2 := by rw [Int.tdiv_eq_ediv_of_nonneg h0]
  have e2 : l.tmod 2 = l % 2 := by rw [Int.tmod_eq_emod_of_nonneg h0]
  exact ⟨(l / 2).toNat, by omega, by omega, by omega, by omega, e2, lt3_in v h0 h⟩
theorem lt3_app (v m : List Int) {l : Int} (h0 : 0 ≤ l) (h : l < 2 * (v.length : Int)) : lt3 (v ++ m) l = lt3 v l := by
  rw [lt3_in v h0 (by omega), lt3_in (v ++ m) h0 (by rw [List.length_append]; omega)]
  have : (l / 2).toNat < v.length := by omega
  simp [List.getD_eq_getElem?_getD, List.getElem?_append_left this]
theorem vals3_app (b : List Int) (G H : List Pr) : vals3 b (G ++ H) = vals3 (vals3 b G) H := by
  induction G generalizing b with
  | nil => rfl
  | cons g G ih => exact ih _
theorem vals3_next (b : List Int) (G : List Pr) (j : Nat) (h : j < G.length) : vals3 b (G.take (j + 1)) = vals3 b (G.take j) ++ [and3 (lt3 (vals3 b (G.take j)) (G.getD j (0, 0)).1) (lt3 (vals3 b (G.take j)) (G.getD j (0, 0)).2)] := by
  rw [takeP G j h, vals3_app]; rfl
/-- The row of values while it is filled. -/
def rowV3 (b : List Int) (G : List Pr) (j : Nat) : List Int := vals3 b (G.take j) ++ List.replicate (G.length - j) 0
theorem rowV3_len (b : List Int) (G : List Pr) (j : Nat) (h : j ≤ G.length) : (rowV3 b G j).length = b.length + G.length := by
  simp [rowV3, vals3_length]; omega
theorem rowV3_zero (b : List Int) (G : List Pr) : rowV3 b G 0 = b ++ List.replicate G.length 0 := by simp [rowV3, vals3]
theorem rowV3_full (b : List Int) (G : List Pr) : rowV3 b G G.length = vals3 b G := by simp [rowV3]
theorem rowV3_next (b : List Int) (G : List Pr) (j : Nat) (h : j < G.length) (ht : topo b.length G) :
    rowV3 b G (j + 1) = (rowV3 b G j).set (b.length + j) (and3 (lt3 (rowV3 b G j) (G.getD j (0, 0)).1) (lt3 (rowV3 b G j) (G.getD j (0, 0)).2)) := by
  obtain ⟨t1, t2, t3⟩ := ht j h
  have hl : (vals3 b (G.take j)).length = b.length + j := by rw [vals3_length, List.length_take]; omega
  have e1 := lt3_app (vals3 b (G.take j)) (List.replicate (G.length - j) 0) (l := (G.getD j (0, 0)).1) (by omega) (by rw [hl]; omega)
  have e2 := lt3_app (vals3 b (G.take j)) (List.replicate (G.length - j) 0) (l := (G.getD j (0, 0)).2) (by omega) (by rw [hl]; omega)
  unfold rowV3
  rw [e1, e2, vals3_next b G j h, show G.length - j = (G.length - (j + 1)) + 1 by omega, List.replicate_succ, List.set_append_right _ _ (by omega), hl]
  simp
/-- Values: 0, 1 or 2. -/
def In3 (l : List Int) : Prop := ∀ x ∈ l, 0 ≤ x ∧ x ≤ 2
theorem In3.at {l : List Int} (h : In3 l) (j : Nat) : 0 ≤ l.getD j 0 ∧ l.getD j 0 ≤ 2 := by
  by_cases hj : j < l.length
  · apply h; simp [List.getD_eq_getElem?_getD, hj]
  · simp [List.getD_eq_getElem?_getD, List.getElem?_eq_none (by omega : l.length ≤ j)]
theorem In3.app {l m : List Int} (h : In3 l) (h' : In3 m) : In3 (l ++ m) := by
  intro x hx
  rcases List.mem_append.1 hx with hx | hx
  · exact h x hx
  · exact h' x hx
theorem In3.one {x : Int} (h : 0 ≤ x ∧ x ≤ 2) : In3 [x] := by intro y hy; simp at hy; subst hy; exact h
theorem not3_in {x : Int} : 0 ≤ not3 x ∧ not3 x ≤ 2 := by
  unfold not3
  repeat' split
  all_goals omega
theorem and3_in {x y : Int} : 0 ≤ and3 x y ∧ and3 x y ≤ 2 := by
  unfold and3
  repeat' split
  all_goals omega
theorem lt3_range {v : List Int} (h : In3 v) (l : Int) : 0 ≤ lt3 v l ∧ lt3 v l ≤ 2 := by
  unfold lt3
  split
  · omega
  · split
    · exact not3_in
    · exact h.at _
theorem In3.vals {b : List Int} (h : In3 b) (G : List Pr) : In3 (vals3 b G) := by
  induction G generalizing b with
  | nil => exact h
  | cons g G ih => exact ih (h.app (In3.one and3_in))
theorem In3.rep (n : Nat) : In3 (List.replicate n 0) := by intro x hx; have := List.eq_of_mem_replicate hx; omega
theorem In3.rowV {b : List Int} (h : In3 b) (G : List Pr) (j : Nat) : In3 (rowV3 b G j) := (h.vals _).app (In3.rep _)
/-- All values, of a state and inputs. -/
def valsOf3 (st inp : List Int) (G : List Pr) : List Int := vals3 (0 :: (inp ++ st)) G
theorem valsOf3_length (st inp : List Int) (G : List Pr) : (valsOf3 st inp G).length = 1 + inp.length + st.length + G.length := by
  unfold valsOf3; rw [vals3_length]; simp; omega
def nextL3 (L G : List Pr) (st inp : List Int) : List Int := L.map (fun p => lt3 (valsOf3 st inp G) p.1)
def tellL3 (l : List Int) (G : List Pr) (st inp : List Int) : List Int := l.map (lt3 (valsOf3 st inp G))
end Go.Proofs.YtekopdfnblfldaaDoor
/- Not, And, a literal's value, of one value. -/
namespace Go.Proofs.YtekopdfnblfldaaDoor
open Go.RowKit
/-- The table of And, as the program's text lays it. -/
structure TB (w : World) : Prop where
  at_ : ∀ i j : Nat, i < 3 → j < 3 → w.cell? ⟨0, i * 3 + j, none⟩ = some (.int .u8 (and3 i j))
  lt : 0 < w.heap.size
theorem TB.nx {w w' : World} (h : TB w) (hb : Below w.heap.size w w') : TB w' :=
  ⟨fun i j hi hj => (hb.cell (p := ⟨0, i * 3 + j, none⟩) h.lt).trans (h.at_ i j hi hj), Nat.lt_of_lt_of_le h.lt hb.size⟩
set_option maxHeartbeats 800000 in
theorem Not_any (x : Int) (w : World) : Calls Tryd.prog 13 #[.int .u8 x] w (RetS w (.int .u8 (not3 x))) := by
  unfold not3
  by_cases h0 : x = 0
  · subst h0
    go_enter Tryd.func13, Tryd.ntmps13
    go_wp2
    go_ret
    exact ⟨rfl, rfl⟩
  · have d0 : (x == 0) = false := by simpa using h0
    rw [if_neg h0]
    by_cases h1 : x = 1
    · subst h1
      go_enter Tryd.func13, Tryd.ntmps13
      go_wp2
      go_ret
      exact ⟨rfl, rfl⟩
    · have d1 : (x == 1) = false := by simpa using h1
      rw [if_neg h1]
      go_enter Tryd.func13, Tryd.ntmps13
      go_wp2
      go_ret
      exact ⟨rfl, rfl⟩
set_option maxHeartbeats 800000 in
theorem refNot_any (x : Int) (w : World) : Calls Tryd.prog 14 #[.int .u8 x] w (RetS w (.int .u8 (not3 x))) := by
  unfold not3
  by_cases h0 : x = 0
  · subst h0
    go_enter Tryd.func14, Tryd.ntmps14
    go_wp2
    go_ret
    exact ⟨rfl, rfl⟩
  · have d0 : (x == 0) = false := by simpa using h0
    rw [if_neg h0]
    by_cases h1 : x = 1
    · subst h1
      go_enter Tryd.func14, Tryd.ntmps14
      go_wp2
      go_ret
      exact ⟨rfl, rfl⟩
    · have d1 : (x == 1) = false := by simpa using h1
      rw [if_neg h1]
      go_enter Tryd.func14, Tryd.ntmps14
      go_wp2
      go_ret
      exact ⟨rfl, rfl⟩
theorem min_run (a b : Int) (E : Int) (h : (if b < a then b else a) = E) (ts : Array TypeId) (t : TypeId) (w : World) : (Builtin.min_ ts t #[.int .u8 a, .int .u8 b]).run Tryd.prog w = .ok (.int .u8 E) w := by
  rw [run_min_int2, h]
set_option maxHeartbeats 800000 in
theorem asValue_any (x E : Int) (h : (if (2 : Int) < x then 2 else x) = E) (w : World) : Calls Tryd.prog 35 #[.int .u8 x] w (RetS w (.int .u8 E)) := by
  have hm := min_run x 2 E h
  clear h
  go_enter Tryd.func35, Tryd.ntmps35
  go_wp2
  go_ret
  exact ⟨rfl, rfl⟩
theorem and3_min (x y : Int) (hx : 0 ≤ x) (hy : 0 ≤ y) : ∃ i j : Nat, i < 3 ∧ j < 3 ∧ (if (2 : Int) < x then 2 else x) = (i : Int) ∧ (if (2 : Int) < y then 2 else y) = (j : Int) ∧ and3 (i : Int) (j : Int) = and3 x y := by
  refine ⟨(if (2 : Int) < x then 2 else x).toNat, (if (2 : Int) < y then 2 else y).toNat, ?_, ?_, ?_, ?_, ?_⟩
  · split <;> omega
  · split <;> omega
  · split <;> omega
  · split <;> omega
  · unfold and3
    have e1 : (((if (2 : Int) < x then 2 else x).toNat : Nat) : Int) = if (2 : Int) < x then 2 else x := by split <;> omega
    have e2 : (((if (2 : Int) < y then 2 else y).toNat : Nat) : Int) = if (2 : Int) < y then 2 else y := by split <;> omega
    rw [e1, e2]
    split <;> split <;> (repeat' split) <;> omega
theorem quietS {f : FuncId} {args : Array Value} {w : World} {n : Nat} {v : Value} (h : Calls Tryd.prog f args (w.drewN n) (RetS (w.drewN n) v)) : Calls Tryd.prog f args (w.drewN n) fun e w'' => e = .returned v ∧ ∃ m, w'' = w.drewN m :=
  h.mono fun _ _ ⟨he, hm⟩ => ⟨he, n, hm.symm⟩
set_option maxHeartbeats 2000000 in
theorem And_q (x y : Int) (hx : 0 ≤ x) (hy : 0 ≤ y) (w : World) (hT : TB w) : Calls Tryd.prog 15 #[.int .u8 x, .int .u8 y] w fun e w' => e = .returned (.int .u8 (and3 x y)) ∧ ∃ n, w' = w.drewN n := by
  obtain ⟨i, j, hi, hj, ei, ej, e3⟩ := and3_min x y hx hy
  have hc := hT.at_ i j hi hj
  rw [e3] at hc
  have CX : Hid (∀ n, Calls Tryd.prog 35 #[.int .u8 x] (w.drewN n) (RetS (w.drewN n) (.int .u8 (i : Int)))) := Lib.hid fun n => asValue_any x i ei _
  have CY : Hid (∀ n, Calls Tryd.prog 35 #[.int .u8 y] (w.drewN n) (RetS (w.drewN n) (.int .u8 (j : Int)))) := Lib.hid fun n => asValue_any y j ej _
  generalize and3 x y = z at *
  have hi' : (i : Int) < 3 := by omega
  have hj' : (j : Int) < 3 := by omega
  clear hT ei ej e3 hx hy
  go_enter Tryd.func15, Tryd.ntmps15
  go_wp2
  go_quiet (first | exact quietS (CX.out _) | exact quietS (CY.out _))
  go_wp2
  go_ret
  exact ⟨rfl, _, rfl⟩
end Go.Proofs.YtekopdfnblfldaaDoor
/- What may be told of values is told through closures. -/
namespace Go.Proofs.YtekopdfnblfldaaDoor
open Go.RowKit
set_option maxHeartbeats 2000000 in
theorem lit1_any (g : Nat) (A : Option Addr) (c : Nat) (v : List Int) (l : Int) (w : World) (hg : w.cell? ⟨g, 0, none⟩ = some (.slice A v.length c)) (h : RT w w.heap.size A v) (hn : v.length ≤ maxLen) (b0 : -9223372036854775808 ≤ l) (b1 : l ≤ 9223372036854775807) :
    Calls Tryd.prog 54 #[.int .i64 l, .pointer (some ⟨g, 0, none⟩)] w (RetS w (.int .u8 (lt3 v l))) := by
  unfold maxLen at hn
  by_cases h0 : l < 0
  · rw [lt3_neg v h0]
    have d0 : decide (l < 0) = true := decide_eq_true h0
    clear h
    go_enter Tryd.func54, Tryd.ntmps54
    go_wp2
    go_ret
    exact ⟨rfl, rfl⟩
  · have d0 : decide (l < 0) = false := decide_eq_false h0
    by_cases h1 : (v.length : Int) ≤ l / 2
    · rw [lt3_far v h1]
      have e1 : l.tdiv 2 = l / 2 := by rw [Int.tdiv_eq_ediv_of_nonneg (by omega)]
      have d1 : decide ((v.length : Int) ≤ l / 2) = true := decide_eq_true h1
      clear h
      go_enter Tryd.func54, Tryd.ntmps54
      go_wp2
      go_ret
      exact ⟨rfl, rfl⟩
    · obtain ⟨j, hj, hj', e1, e2, e3, e4⟩ := lit_parts3 v l (by omega) (by omega)
      obtain ⟨ad, rfl, _, hc⟩ := h j hj
      have d1 : decide (v.length ≤ j) = false := decide_eq_false (by omega)
      have d2 : decide ((v.length : Int) ≤ (j : Int)) = false := decide_eq_false (by omega)
      rw [e4]
      clear h e4 h1
      generalize v.getD j 0 = u at *
      have CN := Not_any u w
      generalize not3 u = nu at *
      by_cases hm : l % 2 = 1
      · have d3 : decide (l % 2 = 1) = true := decide_eq_true hm
        have d4 : (l % 2 == 1) = true := by simpa using hm
        rw [if_pos hm]
        go_enter Tryd.func54, Tryd.ntmps54
        go_wp2_with fail
        refine CN.mono ?_; rintro e w' ⟨rfl, rfl⟩
        clear CN
        go_wp2
        go_ret
        exact ⟨rfl, rfl⟩
      · have d3 : decide (l % 2 = 1) = false := decide_eq_false hm
        have d4 : (l % 2 == 1) = false := by simpa using hm
        rw [if_neg hm]
        clear CN
        go_enter Tryd.func54, Tryd.ntmps54
        go_wp2
        go_ret
        exact ⟨rfl, rfl⟩
set_option maxHeartbeats 2000000 in
theorem refLit3_any (A : Option Addr) (c : Nat) (v : List Int) (l : Int) (w : World) (h : RT w w.heap.size A v) (hn : v.length ≤ maxLen) (b0 : -9223372036854775808 ≤ l) (b1 : l ≤ 9223372036854775807) :
    Calls Tryd.prog 28 #[.slice A v.length c, .int .i64 l] w (RetS w (.int .u8 (lt3 v l))) := by
  unfold maxLen at hn
  by_cases h0 : l < 0
  · rw [lt3_neg v h0]
    have d0 : decide (l < 0) = true := decide_eq_true h0
    clear h
    go_enter Tryd.func28, Tryd.ntmps28
    go_wp2
    go_ret
    exact ⟨rfl, rfl⟩
  · have d0 : decide (l < 0) = false := decide_eq_false h0
    by_cases h1 : (v.length : Int) ≤ l / 2
    · rw [lt3_far v h1]
      have e1 : l.tdiv 2 = l / 2 := by rw [Int.tdiv_eq_ediv_of_nonneg (by omega)]
      have d1 : decide ((v.length : Int) ≤ l / 2) = true := decide_eq_true h1
      clear h
      go_enter Tryd.func28, Tryd.ntmps28
      go_wp2
      go_ret
      exact ⟨rfl, rfl⟩
    · obtain ⟨j, hj, hj', e1, e2, e3, e4⟩ := lit_parts3 v l (by omega) (by omega)
      obtain ⟨ad, rfl, _, hc⟩ := h j hj
      have d1 : decide (v.length ≤ j) = false := decide_eq_false (by omega)
      have d2 : decide ((v.length : Int) ≤ (j : Int)) = false := decide_eq_false (by omega)
      rw [e4]
      clear h e4 h1
      generalize v.getD j 0 = u at *
      have CN := refNot_any u w
      generalize not3 u = nu at *
      by_cases hm : l % 2 = 1
      · have d3 : decide (l % 2 = 1) = true := decide_eq_true hm
        have d4 : (l % 2 == 1) = true := by simpa using hm
        rw [if_pos hm]
        go_enter Tryd.func28, Tryd.ntmps28
        go_wp2_with fail
        refine CN.mono ?_; rintro e w' ⟨rfl, rfl⟩
        clear CN
        go_wp2
        go_ret
        exact ⟨rfl, rfl⟩
      · have d3 : decide (l % 2 = 1) = false := decide_eq_false hm
        have d4 : (l % 2 == 1) = false := by simpa using hm
        rw [if_neg hm]
        clear CN
        go_enter Tryd.func28, Tryd.ntmps28
        go_wp2
        go_ret
        exact ⟨rfl, rfl⟩
set_option maxHeartbeats 2000000 in
theorem refAnd_any (x y : Int) (w : World) : Calls Tryd.prog 16 #[.int .u8 x, .int .u8 y] w (RetS w (.int .u8 (and3 x y))) := by
  unfold and3
  by_cases h0 : x = 0
  · subst h0
    rw [if_pos (.inl rfl)]
    go_enter Tryd.func16, Tryd.ntmps16
    go_wp2
    go_ret
    exact ⟨rfl, rfl⟩
  have d0 : (x == 0) = false := by simpa using h0
  by_cases h1 : y = 0
  · subst h1
    rw [if_pos (.inr rfl)]
    go_enter Tryd.func16, Tryd.ntmps16
    go_wp2
    go_ret
    exact ⟨rfl, rfl⟩
  have d1 : (y == 0) = false := by simpa using h1
  rw [if_neg (by omega)]
  by_cases h2 : x = 1
  · subst h2
    by_cases h3 : y = 1
    · subst h3
      rw [if_pos ⟨rfl, rfl⟩]
      go_enter Tryd.func16, Tryd.ntmps16
      go_wp2
      go_ret
      exact ⟨rfl, rfl⟩
    · have d3 : (y == 1) = false := by simpa using h3
      rw [if_neg (by omega)]
      go_enter Tryd.func16, Tryd.ntmps16
      go_wp2
      go_ret
      exact ⟨rfl, rfl⟩
  · have d2 : (x == 1) = false := by simpa using h2
    rw [if_neg (by omega)]
    go_enter Tryd.func16, Tryd.ntmps16
    go_wp2
    go_ret
    exact ⟨rfl, rfl⟩
/-- The row of what is told while it is filled. -/
def rowM3 (R : List Int) (n j : Nat) : List Int := R.take j ++ List.replicate (n - j) 0
theorem rowM3_len (R : List Int) (n j : Nat) (hn : R.length = n) (h : j ≤ n) : (rowM3 R n j).length = n := by simp [rowM3]; omega
theorem rowM3_full (R : List Int) (n : Nat) (hn : R.length = n) : rowM3 R n n = R := by subst hn; simp [rowM3]
theorem rowM3_next (R : List Int) (n j : Nat) (hn : R.length = n) (h : j < n) : rowM3 R n (j + 1) = (rowM3 R n j).set j (R.getD j 0) := by
  subst hn
  unfold rowM3
  have hl : (R.take j).length = j := by rw [List.length_take]; omega
  have e : R.take (j + 1) = R.take j ++ [R.getD j 0] := by rw [List.take_add_one]; simp [List.getD_eq_getElem?_getD, h]
  rw [e, show R.length - j = (R.length - (j + 1)) + 1 by omega, List.replicate_succ, List.set_append_right _ _ (by omega), hl, Nat.sub_self, List.set_cons_zero, List.append_assoc]
  rfl
/-- What tells of values: two closures over two variables. -/
structure Tl (w : World) (gv gl : Nat) (A : Option Addr) (n c : Nat) : Prop where
  v : w.cell? ⟨gv, 0, none⟩ = some (.slice A n c)
  l : w.cell? ⟨gl, 0, none⟩ = some (.func (.func 54) #[] #[.pointer (some ⟨gv, 0, none⟩)])
  hv : gv < w.heap.size
  hl : gl < w.heap.size
theorem Tl.nx {w w' : World} {gv gl : Nat} {A : Option Addr} {n c : Nat} (h : Tl w gv gl A n c) (hb : Below w.heap.size w w') : Tl w' gv gl A n c :=
  ⟨(hb.cell (p := ⟨gv, 0, none⟩) h.hv).trans h.v, (hb.cell (p := ⟨gl, 0, none⟩) h.hl).trans h.l, Nat.lt_of_lt_of_le h.hv hb.size, Nat.lt_of_lt_of_le h.hl hb.size⟩
def RetTl (w0 : World) (A : Option Addr) (n c : Nat) (e : Ending) (w' : World) : Prop := ∃ gv gl, e = .returned (.agg #[.func (.func 54) #[] #[.pointer (some ⟨gv, 0, none⟩)], .func (.func 55) #[] #[.pointer (some ⟨gl, 0, none⟩)]]) ∧ Tl w' gv gl A n c ∧ Below w0.heap.size w0 w'
set_option maxHeartbeats 2000000 in
theorem tellerOf_any (A : Option Addr) (n c : Nat) (w : World) : Calls Tryd.prog 42 #[.slice A n c] w (RetTl w A n c) := by
  go_enter Tryd.func42, Tryd.ntmps42
  go_wp2
  refine bodyPost_ret (v := .agg #[.func (.func 54) #[] #[.pointer (some ⟨w.heap.size, 0, none⟩)], .func (.func 55) #[] #[.pointer (some ⟨w.heap.size + 2, 0, none⟩)]]) ?r rfl ?_
  case r =>
    simp only [results, Tryd.f42]
    go_simp
  exact ⟨_, _, rfl, by constructor <;> go_simp, by repeat (first | exact Below.refl _ _ | refine Below.setCell ?_ (by simp) _ | refine bal ?_ _)⟩
set_option maxHeartbeats 2000000 in
theorem row3_any (A Av : Option Addr) (c cv gv gl : Nat) (l : List Int) (v : List Int) (w : World) (h : RI w w.heap.size A l) (ht : Tl w gv gl Av v.length cv) (hv : RT w w.heap.size Av v) (hl : l.length ≤ 1000000) (hm : v.length ≤ maxLen) (hlit : ∀ x ∈ l, -9223372036854775808 ≤ x ∧ x ≤ 9223372036854775807) :
    Calls Tryd.prog 55 #[.slice A l.length c, .pointer (some ⟨gl, 0, none⟩)] w (RetR w (l.map (lt3 v))) := by
  obtain ⟨T, hT⟩ : ∃ T, l.map (lt3 v) = T := ⟨_, rfl⟩
  have htl : T.length = l.length := by rw [← hT]; simp
  rw [hT]
  have hg : ∀ j, j < l.length → T.getD j 0 = lt3 v (l.getD j 0) := fun j hj => by rw [← hT]; simp [List.getD_eq_getElem?_getD, hj]
  have mk := mkT 22 Tryd.underlying22 l.length (l.length : Int) rfl (by omega) w
  have hbb := bt_made w l.length
  have hb2 := bal (Below.refl w.heap.size w) (mkOT l.length)
  have HG := Lib.hid hg
  have HT := Lib.hid htl
  have H := Lib.hid h
  have HTL := Lib.hid ht
  have CT : ∀ x : Int, -9223372036854775808 ≤ x → x ≤ 9223372036854775807 → ∀ wx, Below w.heap.size w wx → Calls Tryd.prog 54 #[.int .i64 x, .pointer (some ⟨gv, 0, none⟩)] wx (RetS wx (.int .u8 (lt3 v x))) := fun x h0 h1 wx hx => lit1_any gv Av cv v x wx (ht.nx hx).v (hv.nx hx) hm h0 h1
  have HCT := Lib.hid CT
  have HLI := Lib.hid hlit
  clear hT hg htl h hv CT hlit ht
  go_enter Tryd.func55, Tryd.ntmps55
  generalize w.alloc (mkOT l.length) = w2 at *
  have hr0 : BT w2 w.heap.size (rowM3 T l.length 0) := by unfold rowM3; simpa using hbb
  have HR0 := Lib.hid hr0
  have HB2 := Lib.hid hb2
  clear hbb hb2 hr0
  go_wp2
  go_loopg [12] l.length (fun g s wr => ∃ j : Nat, j + g = l.length ∧ s = .int .i64 j ∧ BT wr w.heap.size (rowM3 T l.length j) ∧ Below w.heap.size w wr)
  case atStart => exact ⟨0, by omega, rfl, HR0.out, HB2.out⟩
  case round =>
    obtain ⟨j, hj, rfl, hrow, hbel⟩ := hrel
    cases gk with
    | zero =>
      have q1 : ¬ ((j : Int) < l.length) := by omega
      have q2 : ¬ (j < l.length) := by omega
      rw [show j = l.length by omega, rowM3_full T _ HT.out] at hrow
      go_wp2
      go_ret
      exact ⟨_, l.length, by rw [HT.out]; rfl, hrow.rb, (fun e => by cases e), by rw [HT.out]; exact Nat.le_refl _, by unfold maxLen; omega, hbel⟩
    | succ g =>
      have hjl : j < l.length := by omega
      have hjl' : (j : Int) < l.length := by omega
      obtain ⟨ad, rfl, hab, hp⟩ := H.out j hjl
      have hp' := (hbel.cell (p := ad.add j) (by rw [block_add]; exact hab)).trans hp
      have hx01 : -9223372036854775808 ≤ l.getD j 0 ∧ l.getD j 0 ≤ 9223372036854775807 := HLI.out _ (by simp [List.getD_eq_getElem?_getD, hjl])
      obtain ⟨x0, x1⟩ := hx01
      have hnext := rowM3_next T l.length j HT.out hjl
      have hgx := HG.out j hjl
      rw [hgx] at hnext
      have c1 := HCT.out (l.getD j 0) x0 x1 wr hbel
      have hll := rowM3_len T l.length j HT.out (by omega)
      have hcell := hrow.cell j (by omega)
      have hfroz := hrow.frozen j
      have hlc := (HTL.out.nx hbel).l
      generalize (rowM3 T l.length j).getD j 0 = u at *
      generalize lt3 v (l.getD j 0) = y at *
      generalize l.getD j 0 = x at *
      have HN := Lib.hid hnext
      have HROW := Lib.hid hrow
      have HBEL := Lib.hid hbel
      clear hnext hrow hbel hgx hp hll
      go_wp2_with fail
      refine c1.mono ?_; rintro e w' ⟨rfl, rfl⟩
      clear c1
      go_wp2
      go_roundg g
      case measure => omega
      case rel => exact ⟨j + 1, by omega, by go_num, by rw [HN.out]; exact HROW.out.store _ _, HBEL.out.setCell (Nat.le_refl _) _⟩
end Go.Proofs.YtekopdfnblfldaaDoor
