/-
  Rows of clauses; cnf.Parse as a plain function.
  cnf.Parse over the translated program.
  cnf.PrintModel over the translated program.
-/
import Derived.Test.YtahedhpffjgimaaDoorProg
import Derived.WalkKit
import Derived.WalkSpells
import Derived.WalkLawsBesides
import Derived.Lib.Hide
import Derived.BigQuiet
import Derived.Deep.QuietTactic
import Derived.Deep.RegionWith
import Derived.Deep.RegionHeld3
import Derived.Test.YtahedhpffjgimaaDoorQ04
set_option linter.unusedVariables false
/- Rows of clauses; cnf.Parse as a plain function. -/
namespace Go.Proofs.YtahedhpffjgimaaDoor
open Go.RowKit
theorem cl_info : (Tryd.prog.info? 26).map (fun i => (i.zero, i.size, i.bytes)) = some (some (.slice none 0 0), 1, 24) := by kernel_rfl
/-- A row of clauses that a call made for itself. -/
def OwnC (w : World) (base : Nat) (v : Value) (L : List (List Int)) : Prop :=
  ∃ vs : List Value, vs.length = L.length ∧ w.ownsRow base 26 1 v vs.length vs ∧ ∀ i, i < L.length → OwnI w base (vs.getD i .nilIface) (L.getD i [])
theorem OwnC.nil (w : World) (base : Nat) : OwnC w base (.slice none 0 0) [] := ⟨[], rfl, World.ownsRow_nil _ _ _ _, fun i hi => absurd hi (by simp)⟩
theorem own_apart {w : World} {base : Nat} {u v : Value} {n m : Nat} {xs ys : List Value} (h : w.ownsRow base 3 1 u n xs) (h' : w.ownsRow base 26 1 v m ys) : u.ownBlock = none ∨ u.ownBlock ≠ v.ownBlock := by
  rcases h.2 with ⟨rfl, _⟩ | ⟨g, cap, cur, rfl, _, hh, _⟩
  · exact .inl rfl
  · refine .inr ?_
    rcases h'.2 with ⟨rfl, _⟩ | ⟨g', cap', cur', rfl, _, hh', _⟩
    · simp [Value.ownBlock]
    · intro e
      have : g = g' := by simpa [Value.ownBlock] using e
      subst this
      rw [hh] at hh'
      injection hh' with h1
      injection h1 with h2 h3
      exact absurd h3 (by decide)
theorem OwnC.kept {w w' : World} {base : Nat} {v : Value} {L : List (List Int)} (h : OwnC w base v L) (hb : Below w.heap.size w w') : OwnC w' base v L := by
  obtain ⟨vs, h1, h2, h3⟩ := h
  refine ⟨vs, h1, World.ownsRow.kept h2 (row := none) ⟨hb.os, hb.tape, hb.output, hb.size, fun k hk _ => hb.block k hk⟩ ?_, fun i hi => (h3 i hi).old hb⟩
  cases hv : v.ownBlock with
  | none => exact .inl rfl
  | some k => exact .inr (by simp)
theorem OwnC.set {w : World} {base : Nat} {v : Value} {L : List (List Int)} (h : OwnC w base v L) {a : Addr} (ha : a.block < base) (u : Value) : OwnC (w.setCell a u) base v L := by
  obtain ⟨vs, h1, h2, h3⟩ := h
  exact ⟨vs, h1, ownsRow_setCell_below h2 ha u, fun i hi => ownsRow_setCell_below (h3 i hi) ha u⟩
theorem OwnC.val {w : World} {base : Nat} {v : Value} {L : List (List Int)} (h : OwnC w base v L) : ∃ (A : Option Addr) (c : Nat), v = .slice A L.length c ∧ RC w w.heap.size A L ∧ (A = none → c = 0) := by
  obtain ⟨vs, h1, h2, h3⟩ := h
  rcases h2.2 with ⟨rfl, h0⟩ | ⟨g, cap, cur, rfl, hg, hh, k1, k2, k3, k4⟩
  · have : L = [] := List.eq_nil_of_length_eq_zero (by omega)
    subst this
    exact ⟨none, 0, rfl, fun i hi => absurd hi (by simp), fun _ => rfl⟩
  · refine ⟨some ⟨g, 0, none⟩, cap, by rw [h1], fun i hi => ?_, fun e => by cases e⟩
    obtain ⟨A', c', hv, hr, _, hc1, hc2⟩ := (h3 i hi).val
    refine ⟨_, A', c', rfl, (World.ownsRow.lt h2 g rfl).2, ?_, hr, by omega⟩
    rw [add_loc, World.ownsRow.cellAt h2 i (by omega), ← hv]
    have : i < vs.length := by omega
    simp [List.getD_eq_getElem?_getD, this]
theorem OwnC.len {w : World} {base : Nat} {A : Option Addr} {n c : Nat} {L : List (List Int)} (h : OwnC w base (.slice A n c) L) : n = L.length := by
  obtain ⟨A', c', e, _⟩ := h.val
  injection e with e1 e2 e3
/-- 'append(s, c)' of a clause. -/
theorem wpC1 {w : World} {ops : Array Oper} {rest : List Oper} {o : Oper} {a : Act} {Q : Exit → Act → World → Prop} (hgd : o.guard = none) (s x : Operand)
    (ho : o.op = .call { callee := .builtin .append, args := #[s, x], argTypes := #[22, 22] })
    (base : Nat) (v : Value) (L : List (List Int)) (hs : a.eval s = v) (hown : OwnC w base v L) (vc : Value) (c : List Int) (hc : OwnI w base vc c) (hx : a.eval x = .slice (some ⟨w.heap.size, 0, none⟩) 1 1) (hb : base ≤ w.heap.size)
    (hsz : L.length ≤ 3000000000)
    (h : ∀ v' w', OwnC w' base v' (L ++ [c]) → Below base w w' → wpList Tryd.prog ops Q rest (a.put o.dst v') w') : wpList Tryd.prog ops Q (o :: rest) a (w.alloc (.cells #[vc] 26)) := by
  obtain ⟨i0, hi0, hz0, hz1, hz2⟩ := info_parts cl_info
  obtain ⟨vs, h1, h2, h3⟩ := hown
  have hbel : Below w.heap.size w (w.alloc (.cells #[vc] 26)) := bal (Below.refl _ _) _
  have h2' := World.ownsRow.alloc h2 (.cells #[vc] 26)
  obtain ⟨A', c', hvc, _⟩ := hc.val
  refine wpList_append_own _ hgd s x 22 ho base 26 i0 (.slice none 0 0) 1 24 Tryd.underlying22 hi0 hz0 hz1 hz2 rfl (by omega) v vs.length vs hs h2' ⟨w.heap.size, 0, none⟩ 1 1 [vc] hx rfl (cell_one_new _ _ _) ?_ (by unfold maxLen; omega) (by omega) (by simp; omega) ?_
  · intro u hu; simp at hu; subst hu; rw [hvc]; rfl
  · intro v' w' hown' hg _
    refine h v' w' ⟨vs ++ [vc], by simp [h1], by simpa using hown', ?_⟩ ?_
    · intro i hi
      simp only [List.length_append, List.length_cons, List.length_nil] at hi
      by_cases hlt : i < L.length
      · have e1 : (vs ++ [vc]).getD i .nilIface = vs.getD i .nilIface := by
          simp only [List.getD_eq_getElem?_getD]; rw [List.getElem?_append_left (by omega)]
        have e2 : (L ++ [c]).getD i [] = L.getD i [] := by
          simp only [List.getD_eq_getElem?_getD]; rw [List.getElem?_append_left (by omega)]
        rw [e1, e2]
        exact World.ownsRow.kept ((h3 i hlt).old hbel) hg (own_apart ((h3 i hlt).old hbel) h2')
      · obtain rfl : i = L.length := by omega
        have e1 : (vs ++ [vc]).getD L.length .nilIface = vc := by
          simp only [List.getD_eq_getElem?_getD]; rw [List.getElem?_append_right (by omega)]; simp [h1]
        have e2 : (L ++ [c]).getD L.length [] = c := by
          simp only [List.getD_eq_getElem?_getD]; rw [List.getElem?_append_right (by omega)]; simp
        rw [e1, e2]
        exact World.ownsRow.kept (hc.old hbel) hg (own_apart (hc.old hbel) h2')
    · exact ((Below.refl base w).alloc hb _).grown hg (by simp; omega) (fun k hk => ((World.ownsRow.lt h2) k hk).1)
/-- The clauses' lines at the head of t. -/
def rdCls (n : Int) : Nat → List UInt8 → List (List Int) → List (List Int) × Nat × Int
  | 0, t, L => (L, 0, 0)
  | m + 1, t, L => if (rdCl n t []).2.2 ≠ 0 then ([], (rdCl n t []).2.1, (rdCl n t []).2.2)
    else ((rdCls n m (t.drop (rdCl n t []).2.1) (L ++ [(rdCl n t []).1])).1, (rdCl n t []).2.1 + (rdCls n m (t.drop (rdCl n t []).2.1) (L ++ [(rdCl n t []).1])).2.1, (rdCls n m (t.drop (rdCl n t []).2.1) (L ++ [(rdCl n t []).1])).2.2)
/-- A text's formula, how far, what is wrong. -/
def parseS (l : List UInt8) : (Int × List (List Int)) × Nat × Int :=
  if 100000 < l.length then ((0, []), 0, 3)
  else if (rdHead l).2.2.2 ≠ 0 then ((0, []), (rdHead l).2.2.1, (rdHead l).2.2.2)
  else if (rdCls (rdHead l).1 (rdHead l).2.1.toNat (l.drop (rdHead l).2.2.1) []).2.2 ≠ 0 then ((0, []), (rdHead l).2.2.1 + (rdCls (rdHead l).1 (rdHead l).2.1.toNat (l.drop (rdHead l).2.2.1) []).2.1, (rdCls (rdHead l).1 (rdHead l).2.1.toNat (l.drop (rdHead l).2.2.1) []).2.2)
  else if (rdHead l).2.2.1 + (rdCls (rdHead l).1 (rdHead l).2.1.toNat (l.drop (rdHead l).2.2.1) []).2.1 < l.length then ((0, []), (rdHead l).2.2.1 + (rdCls (rdHead l).1 (rdHead l).2.1.toNat (l.drop (rdHead l).2.2.1) []).2.1, 2)
  else (((rdHead l).1, (rdCls (rdHead l).1 (rdHead l).2.1.toNat (l.drop (rdHead l).2.2.1) []).1), (rdHead l).2.2.1 + (rdCls (rdHead l).1 (rdHead l).2.1.toNat (l.drop (rdHead l).2.2.1) []).2.1, 0)
theorem rdCl_len (n : Int) : ∀ (f : Nat) (t : List UInt8) (c : List Int), t.length ≤ f → (rdCl n t c).2.1 ≤ t.length := by
  intro f
  induction f with
  | zero =>
    intro t c h
    have ht : t = [] := List.eq_nil_of_length_eq_zero (by omega)
    have := signedS_len t n
    rw [rdCl]
    split
    · simp
    · split
      · split
        · rename_i hb; have := bS_len hb; simp [ht] at this
        · exact this
      · split
        · simp
        · split
          · rename_i hb; have := bS_len hb; simp [ht] at this
          · exact this
  | succ f ih =>
    intro t c h
    have := signedS_len t n
    rw [rdCl]
    split
    · simp
    · split
      · split
        · rename_i hb; have := bS_len hb; simp only [List.length_drop, List.length_cons, List.length_nil] at this; simp only; omega
        · exact this
      · split
        · simp
        · split
          · rename_i hb
            have h2 := bS_len hb
            simp only [List.length_drop, List.length_cons, List.length_nil] at h2
            have h3 := ih (t.drop ((signedS t n).2.1 + 1)) (c ++ [(signedS t n).1]) (by simp only [List.length_drop]; omega)
            simp only [List.length_drop] at h3
            simp only; omega
          · exact this
theorem rdHead_bd (l : List UInt8) : 0 ≤ (rdHead l).1 ∧ (rdHead l).1 ≤ 2147483647 ∧ 0 ≤ (rdHead l).2.1 ∧ (rdHead l).2.1 ≤ 2147483647 ∧ (rdHead l).2.2.1 ≤ l.length ∧ 0 ≤ (rdHead l).2.2.2 ∧ (rdHead l).2.2.2 ≤ 3 := by
  unfold rdHead
  split
  · simp
  · rename_i h1
    have h1 : bS l headW = true := by simpa using h1
    have h6 : 6 ≤ l.length := bS_len h1
    have b1 := numberS_bd (l.drop 6) 100000
    have l1 := numberS_len (l.drop 6) 100000
    simp only [List.length_drop] at l1
    generalize numberS (l.drop 6) 100000 = r at *
    split
    · simp only; omega
    · split
      · simp only; omega
      · rename_i h3
        have h3 : bS (l.drop (6 + r.2.1)) [32] = true := by simpa using h3
        have h7 := bS_len h3
        simp only [List.length_drop, List.length_cons, List.length_nil] at h7
        have b2 := numberS_bd (l.drop (6 + r.2.1 + 1)) 20000
        have l2 := numberS_len (l.drop (6 + r.2.1 + 1)) 20000
        simp only [List.length_drop] at l2
        generalize numberS (l.drop (6 + r.2.1 + 1)) 20000 = q at *
        split
        · simp only; omega
        · split
          · simp only; omega
          · rename_i h5
            have h5 : bS (l.drop (6 + r.2.1 + 1 + q.2.1)) [10] = true := by simpa using h5
            have h8 := bS_len h5
            simp only [List.length_drop, List.length_cons, List.length_nil] at h8
            simp only; omega
end Go.Proofs.YtahedhpffjgimaaDoor
/- cnf.Parse over the translated program. -/
namespace Go.Proofs.YtahedhpffjgimaaDoor
open Go.RowKit
/-- What a call tells that parses a formula. -/
def RetP (w0 : World) (N : Int) (L : List (List Int)) (K : Nat) (E : Int) (e : Ending) (w' : World) : Prop :=
  ∃ A c, e = .returned (.tuple #[.agg #[.int .i64 N, .slice A L.length c], .int .i64 ((K : Nat) : Int), .int .i64 E]) ∧ RC w' w'.heap.size A L ∧ (A = none → c = 0) ∧ Below w0.heap.size w0 w'
set_option maxHeartbeats 400000 in
theorem Wrong_any (k e : Int) (w : World) : Calls Tryd.prog 57 #[.int .i64 k, .int .i64 e] w (RetV w (.tuple #[.agg #[.int .i64 0, .slice none 0 0], .int .i64 k, .int .i64 e])) := by
  go_enter Tryd.func57, Tryd.ntmps57
  go_wp2
  exact bodyPost_ret (by simp [results, Tryd.results57, go_sem]) rfl ⟨rfl, bal (Below.refl _ _) _⟩
/-- The world of cnf.Parse. -/
structure PW (w wr : World) (n : Int) (v : Value) (L : List (List Int)) : Prop where
  bel : Below w.heap.size w wr
  sz : w.heap.size + 1 + 1 ≤ wr.heap.size
  r0 : wr.cell? ⟨w.heap.size, 0, none⟩ = some (.int .i64 0) ∧ wr.frozen? ⟨w.heap.size, 0, none⟩ = false
  r1 : wr.cell? ⟨w.heap.size, 1, none⟩ = some (.slice none 0 0) ∧ wr.frozen? ⟨w.heap.size, 1, none⟩ = false
  f0 : wr.cell? ⟨w.heap.size + 1, 0, none⟩ = some (.int .i64 n) ∧ wr.frozen? ⟨w.heap.size + 1, 0, none⟩ = false
  f1 : wr.cell? ⟨w.heap.size + 1, 1, none⟩ = some v ∧ wr.frozen? ⟨w.heap.size + 1, 1, none⟩ = false
  own : OwnC wr (w.heap.size + 1 + 1) v L
theorem PW.first (w : World) (n : Int) : PW w ((w.alloc (.cells #[.int .i64 0, .slice none 0 0] 24)).alloc (.cells #[.int .i64 n, .slice none 0 0] 24)) n (.slice none 0 0) [] := by
  refine ⟨bal (bal (Below.refl _ _) _) _, by simp, ⟨?_, ?_⟩, ⟨?_, ?_⟩, ⟨?_, ?_⟩, ⟨?_, ?_⟩, OwnC.nil _ _⟩ <;> go_simp
theorem PW.low {w wr w1 : World} {n : Int} {v v1 : Value} {L L1 : List (List Int)} (h : PW w wr n v L) (hb : Below (w.heap.size + 1 + 1) wr w1) (ho : OwnC w1 (w.heap.size + 1 + 1) v1 L1) : PW w (w1.setCell ⟨w.heap.size + 1, 1, none⟩ v1) n v1 L1 := by
  have c0 := fun (o : Nat) => hb.cell (p := ⟨w.heap.size, o, none⟩) (by simp; omega)
  have d0 := fun (o : Nat) => hb.frozen (p := ⟨w.heap.size, o, none⟩) (by simp; omega)
  have c1 := fun (o : Nat) => hb.cell (p := ⟨w.heap.size + 1, o, none⟩) (by simp)
  have d1 := fun (o : Nat) => hb.frozen (p := ⟨w.heap.size + 1, o, none⟩) (by simp)
  refine ⟨(h.bel.trans (hb.mono (by omega))).setCell (by simp) _, by have := hb.size; have := h.sz; simp; omega, ⟨?_, ?_⟩, ⟨?_, ?_⟩, ⟨?_, ?_⟩, ⟨?_, ?_⟩, ho.set (by simp) _⟩
  · rw [World.cell?_setCell_other _ _ _ _ (by simp), c0]; exact h.r0.1
  · simpa using (d0 0).trans h.r0.2
  · rw [World.cell?_setCell_other _ _ _ _ (by simp), c0]; exact h.r1.1
  · simpa using (d0 1).trans h.r1.2
  · rw [World.cell?_setCell_other _ _ _ _ (by simp), c1]; exact h.f0.1
  · simpa using (d1 0).trans h.f0.2
  · exact World.cell?_setCell_same _ _ _ ((c1 1).trans h.f1.1)
  · simpa using (d1 1).trans h.f1.2
theorem PW.nx {w wr w1 : World} {n : Int} {v : Value} {L : List (List Int)} (h : PW w wr n v L) (hb : Below wr.heap.size wr w1) : PW w w1 n v L := by
  have hs := h.sz
  have c0 := fun (o : Nat) => hb.cell (p := ⟨w.heap.size, o, none⟩) (by simp; omega)
  have d0 := fun (o : Nat) => hb.frozen (p := ⟨w.heap.size, o, none⟩) (by simp; omega)
  have c1 := fun (o : Nat) => hb.cell (p := ⟨w.heap.size + 1, o, none⟩) (by simp; omega)
  have d1 := fun (o : Nat) => hb.frozen (p := ⟨w.heap.size + 1, o, none⟩) (by simp; omega)
  exact ⟨h.bel.trans (hb.mono (by omega)), by have := hb.size; omega, ⟨(c0 0).trans h.r0.1, (d0 0).trans h.r0.2⟩, ⟨(c0 1).trans h.r1.1, (d0 1).trans h.r1.2⟩, ⟨(c1 0).trans h.f0.1, (d1 0).trans h.f0.2⟩, ⟨(c1 1).trans h.f1.1, (d1 1).trans h.f1.2⟩, h.own.kept hb⟩
set_option maxHeartbeats 800000 in
theorem Parse_long (A : Option Addr) (c n : Nat) (w : World) (h : 100000 < n) (hn : n ≤ maxLen) :
    Calls Tryd.prog 32 #[.slice A n c] w (RetP w 0 [] 0 3) := by
  unfold maxLen at hn
  have hd : decide ((100000 : Int) < n) = true := decide_eq_true (by omega)
  have C := Wrong_any 0 3 (w.alloc (.cells #[.int .i64 0, .slice none 0 0] 24))
  have HB := Lib.hid (bal (Below.refl w.heap.size w) (.cells #[.int .i64 0, .slice none 0 0] 24))
  have hs : w.heap.size < (w.alloc (.cells #[.int .i64 0, .slice none 0 0] 24)).heap.size := by simp
  have q0 : (w.alloc (.cells #[.int .i64 0, .slice none 0 0] 24)).cell? ⟨w.heap.size, 0, none⟩ = some (.int .i64 0) := by go_simp
  have q1 : (w.alloc (.cells #[.int .i64 0, .slice none 0 0] 24)).cell? ⟨w.heap.size, 1, none⟩ = some (.slice none 0 0) := by go_simp
  have q2 : (w.alloc (.cells #[.int .i64 0, .slice none 0 0] 24)).frozen? ⟨w.heap.size, 0, none⟩ = false := by go_simp
  have q3 : (w.alloc (.cells #[.int .i64 0, .slice none 0 0] 24)).frozen? ⟨w.heap.size, 1, none⟩ = false := by go_simp
  generalize hw1 : w.alloc (.cells #[.int .i64 0, .slice none 0 0] 24) = w1 at *
  have HW1 := Lib.hid hw1
  clear hw1 h
  go_enter Tryd.func32, Tryd.ntmps32
  go_wp2_with fail
  rw [HW1.out]
  refine C.mono ?_; rintro e w2 ⟨rfl, hb⟩
  have p0 := (hb.cell (p := ⟨w.heap.size, 0, none⟩) hs).trans q0
  have p1 := (hb.cell (p := ⟨w.heap.size, 1, none⟩) hs).trans q1
  have p2 := (hb.frozen (p := ⟨w.heap.size, 0, none⟩) hs).trans q2
  have p3 := (hb.frozen (p := ⟨w.heap.size, 1, none⟩) hs).trans q3
  have hB := bnx HB.out hb
  have ps : w.heap.size < w2.heap.size := by have := hb.size; omega
  clear C hb HB q0 q1 q2 q3 hs
  go_wp2
  refine bodyPost_ret (v := .tuple #[.agg #[.int .i64 0, .slice none 0 0], .int .i64 0, .int .i64 3]) (by simp [results, Tryd.results32, go_sem, p0, p1]) rfl ⟨none, 0, rfl, fun i hi => absurd hi (by simp), fun _ => rfl, (hB.setCell (by simp) _).setCell (by simp) _⟩
theorem parse_he {l : List UInt8} {n q : Int} {k : Nat} {e : Int} (h : l.length ≤ 100000) (hh : rdHead l = (n, q, k, e)) (he : e ≠ 0) : parseS l = ((0, []), k, e) := by
  unfold parseS; rw [if_neg (by omega), hh, if_pos he]
theorem parse_ce {l : List UInt8} {n q : Int} {k a : Nat} {R : List (List Int)} {E : Int} (h : l.length ≤ 100000) (hh : rdHead l = (n, q, k, 0)) (hr : rdCls n q.toNat (l.drop k) [] = (R, a, E)) (he : E ≠ 0) : parseS l = ((0, []), k + a, E) := by
  unfold parseS; rw [if_neg (by omega), hh, if_neg (by simp)]; simp only; rw [hr, if_pos he]
theorem parse_en {l : List UInt8} {n q : Int} {k a : Nat} {R : List (List Int)} (h : l.length ≤ 100000) (hh : rdHead l = (n, q, k, 0)) (hr : rdCls n q.toNat (l.drop k) [] = (R, a, 0)) (he : k + a < l.length) : parseS l = ((0, []), k + a, 2) := by
  unfold parseS; rw [if_neg (by omega), hh, if_neg (by simp)]; simp only; rw [hr, if_neg (by simp), if_pos he]
theorem parse_ok {l : List UInt8} {n q : Int} {k a : Nat} {R : List (List Int)} (h : l.length ≤ 100000) (hh : rdHead l = (n, q, k, 0)) (hr : rdCls n q.toNat (l.drop k) [] = (R, a, 0)) (he : ¬ k + a < l.length) : parseS l = ((n, R), k + a, 0) := by
  unfold parseS; rw [if_neg (by omega), hh, if_neg (by simp)]; simp only; rw [hr, if_neg (by simp), if_neg he]
set_option maxHeartbeats 3200000 in
set_option maxRecDepth 100000 in
theorem Parse_in (A : Option Addr) (c : Nat) (l : List UInt8) (w : World) (h : Rd w w.heap.size A l) (hn : l.length ≤ c) (hc : c ≤ maxLen) (hl : l.length ≤ 100000) :
    Calls Tryd.prog 32 #[.slice A l.length c] w (RetP w (parseS l).1.1 (parseS l).1.2 (parseS l).2.1 (parseS l).2.2) := by
  have hd : decide ((100000 : Int) < l.length) = false := decide_eq_false (by omega)
  have hbd := rdHead_bd l
  have hB0 := bal (Below.refl w.heap.size w) (.cells #[.int .i64 0, .slice none 0 0] 24)
  have C := readHead_any A c l w.heap.size _ (h.below hB0) hn hc
  obtain ⟨⟨n, q, k, e⟩, hh⟩ : ∃ r, rdHead l = r := ⟨_, rfl⟩
  rw [hh] at hbd C
  simp only [resH] at hbd C
  obtain ⟨n0, n1, q0, q1, k1, e0, e1⟩ := hbd
  have HH := Lib.hid hh
  have HC := Lib.hid hc
  have HR := Lib.hid h
  clear hh hc h
  by_cases he : e = 0
  · subst he
    obtain ⟨M, rfl⟩ := Int.eq_ofNat_of_zero_le q0
    obtain ⟨R, a, E, hr⟩ : ∃ R a E, rdCls n M (l.drop k) [] = (R, a, E) := ⟨_, _, _, rfl⟩
    have HS : Hid (∃ b, rdCls n (M - 0) (l.drop k) [] = (R, b, E) ∧ k + b = k + a) := ⟨a, hr, rfl⟩
    have HX : Hid (parseS l = if E ≠ 0 then ((0, []), k + a, E) else if k + a < l.length then ((0, []), k + a, 2) else ((n, R), k + a, 0)) := by
      show _ = _
      split
      · rename_i hE; exact parse_ce hl HH.out hr hE
      · rename_i hE
        have : E = 0 := by simpa using hE
        subst this
        split
        · rename_i h2; exact parse_en hl HH.out hr h2
        · rename_i h2; exact parse_ok hl HH.out hr h2
    have F0 := Lib.hid (PW.first w n)
    generalize k + a = K at *
    clear hr q0
    go_enter Tryd.func32, Tryd.ntmps32
    go_wp2_with fail
    refine C.mono ?_; rintro e w' ⟨rfl, rfl⟩
    clear C hB0
    go_wp2
    go_loopw [8, 41] (fun p i wr => ∃ (I j : Nat) (v : Value) (L : List (List Int)), I ≤ M ∧ j ≤ l.length ∧ L.length = I ∧ p = .int .i64 j ∧ i = .int .i64 I ∧ PW w wr n v L ∧ Hid (∃ b, rdCls n (M - I) (l.drop j) L = (R, b, E) ∧ j + b = K)) (fun _ i _ => M - (intOf i).toNat)
    case atStart => exact ⟨0, k, _, [], Nat.zero_le _, k1, rfl, rfl, rfl, F0.out, HS⟩
    case round =>
      obtain ⟨I, j, v, L, hI, hj, hL, rfl, rfl, hP, HJ⟩ := hrel
      clear F0 HS
      by_cases hlt : I < M
      · have c1 := readClause_any A c j l n wr ((HR.out.below hP.bel).mono hP.bel.size) hj hn HC.out
        have hlen := rdCl_len n l.length (l.drop j) [] (by simp)
        rw [List.length_drop] at hlen
        have hm := HJ.out
        rw [show M - I = (M - (I + 1)) + 1 by omega, rdCls] at hm
        simp only [List.drop_drop] at hm
        obtain ⟨⟨o, m, e⟩, hr⟩ : ∃ r, rdCl n (l.drop j) [] = r := ⟨_, rfl⟩
        rw [hr] at c1 hlen hm
        clear hr HJ
        simp only at c1 hlen hm
        obtain ⟨J, hJ⟩ : ∃ J, j + m = J := ⟨_, rfl⟩
        rw [hJ] at c1 hm
        have hJl : J ≤ l.length := by omega
        have HP := Lib.hid hP
        clear hP
        by_cases he : e = 0
        · subst he
          rw [if_pos rfl] at c1
          rw [if_neg (by simp)] at hm
          have HE : Hid (∃ b, rdCls n (M - (I + 1)) (l.drop J) (L ++ [o]) = (R, b, E) ∧ J + b = K) := by
            obtain ⟨m0, h1, h2⟩ := hm
            simp only [Prod.mk.injEq] at h1
            obtain ⟨rfl, rfl, rfl⟩ := h1
            exact ⟨(rdCls n (M - (I + 1)) (l.drop J) (L ++ [o])).2.1, rfl, by omega⟩
          clear hm HX
          go_wp2_with fail
          refine c1.mono ?_; rintro e w1 ⟨vc, rfl, hoc, hb1⟩
          have hP1 := HP.out.nx hb1
          have hsz := HP.out.sz
          have hoc1 := hoc.base hsz
          have hs1 := hP1.sz
          have p0 := hP1.f1.1
          obtain ⟨Ac, cc, rfl, _⟩ := hoc.val
          have hown := hP1.own
          have hLb : L.length ≤ 3000000000 := by omega
          have x4 : w.heap.size + 1 < w1.heap.size := by omega
          have HP1 := Lib.hid hP1
          clear c1 HP hoc hb1 hP1
          go_wp2_with (first
            | (at_builtin; refine wpC1 rfl (.tmp 61) (.tmp 63) rfl (w.heap.size + 1 + 1) _ L rfl hown _ o hoc1 rfl hs1 hLb ?_))
          intro v' w2 ho2 hb2
          have hP2 := HP1.out.low hb2 ho2
          have f1 := (hb2.cell (p := ⟨w.heap.size + 1, 1, none⟩) (by simp)).trans HP1.out.f1.1
          have f2 := (hb2.frozen (p := ⟨w.heap.size + 1, 1, none⟩) (by simp)).trans HP1.out.f1.2
          have x5 : w.heap.size + 1 < w2.heap.size := by have := hb2.size; omega
          obtain ⟨A2, c2, rfl, _⟩ := ho2.val
          rw [show (L ++ [o]).length = I + 1 by simp [hL]] at hP2 ⊢
          have HP2 := Lib.hid hP2
          clear HP1 ho2 hb2 hown hoc1 p0 hP2
          go_wp2
          go_roundw
          case rel => exact ⟨I + 1, J, _, L ++ [o], by omega, hJl, by simp [hL], rfl, by go_num, HP2.out, HE⟩
          case measure => simp [intOf]; omega
        · have heb : (e != 0) = true := by simp [he]
          rw [if_neg he] at c1
          rw [if_pos he] at hm
          have HE : Hid (parseS l = ((0, []), J, e)) := by
            show _ = _
            obtain ⟨m0, h1, h2⟩ := hm
            simp only [Prod.mk.injEq] at h1
            obtain ⟨rfl, rfl, rfl⟩ := h1
            rw [HX.out, if_pos he]
            congr 2; omega
          clear hm HX he hJ
          go_wp2_with fail
          refine c1.mono ?_; rintro e w1 ⟨vc, rfl, hoc, hb1⟩
          have hP1 := HP.out.nx hb1
          obtain ⟨Ac, cc, rfl, _⟩ := hoc.val
          have C2 := Wrong_any (J : Int) e w1
          have HP1 := Lib.hid hP1
          clear c1 HP hoc hb1 hP1
          go_wp2_with fail
          refine C2.mono ?_; rintro e w2 ⟨rfl, hb2⟩
          have hP2 := HP1.out.nx hb2
          obtain ⟨p0, p2⟩ := hP2.r0
          obtain ⟨p1, p3⟩ := hP2.r1
          have hB := hP2.bel
          have ps : w.heap.size < w2.heap.size := by have := hP2.sz; omega
          clear C2 HP1 hb2 hP2
          go_wp2
          refine bodyPost_ret (v := .tuple #[.agg #[.int .i64 0, .slice none 0 0], .int .i64 (J : Int), .int .i64 e]) (by simp [results, Tryd.results32, go_sem, p0, p1]) rfl ?_
          rw [HE.out]
          exact ⟨none, 0, rfl, fun i hi => absurd hi (by simp), fun _ => rfl, (hB.setCell (by simp) _).setCell (by simp) _⟩
      · obtain rfl : I = M := by omega
        have hm := HJ.out
        rw [Nat.sub_self, rdCls] at hm
        have hm2 : R = L ∧ E = 0 ∧ j = K := by
          obtain ⟨m0, h1, h2⟩ := hm
          simp only [Prod.mk.injEq] at h1
          obtain ⟨rfl, rfl, rfl⟩ := h1
          exact ⟨rfl, rfl, by omega⟩
        obtain ⟨rfl, rfl, rfl⟩ := hm2
        subst hL
        have hX := HX.out
        rw [if_neg (by simp)] at hX
        have HP := Lib.hid hP
        clear hm HJ HX
        by_cases hjl : j < l.length
        · rw [if_pos hjl] at hX
          have HE := Lib.hid hX
          have C2 := Wrong_any (j : Int) 2 wr
          clear hX hP
          go_wp2_with fail
          refine C2.mono ?_; rintro e w2 ⟨rfl, hb2⟩
          have hP2 := HP.out.nx hb2
          obtain ⟨p0, p2⟩ := hP2.r0
          obtain ⟨p1, p3⟩ := hP2.r1
          have hB := hP2.bel
          have ps : w.heap.size < w2.heap.size := by have := hP2.sz; omega
          clear C2 HP hb2 hP2
          go_wp2
          refine bodyPost_ret (v := .tuple #[.agg #[.int .i64 0, .slice none 0 0], .int .i64 (j : Int), .int .i64 2]) (by simp [results, Tryd.results32, go_sem, p0, p1]) rfl ?_
          rw [HE.out]
          exact ⟨none, 0, rfl, fun i hi => absurd hi (by simp), fun _ => rfl, (hB.setCell (by simp) _).setCell (by simp) _⟩
        · rw [if_neg hjl] at hX
          have HE := Lib.hid hX
          obtain ⟨p0, p2⟩ := hP.r0
          obtain ⟨p1, p3⟩ := hP.r1
          have f0 := hP.f0.1
          have f1 := hP.f1.1
          have ps : w.heap.size < wr.heap.size := by have := hP.sz; omega
          have ps1 : w.heap.size + 1 < wr.heap.size := by have := hP.sz; omega
          obtain ⟨A2, c2, rfl, _⟩ := hP.own.val
          clear hX hP
          go_wp2
          refine bodyPost_ret (v := .tuple #[.agg #[.int .i64 n, .slice A2 R.length c2], .int .i64 (j : Int), .int .i64 0]) (by simp [results, Tryd.results32, go_sem, p0, p1]) rfl ?_
          rw [HE.out]
          have ho := (HP.out.own.set (a := ⟨w.heap.size, 0, none⟩) (by simp; omega) (.int .i64 n)).set (a := ⟨w.heap.size, 1, none⟩) (by simp; omega) (.slice A2 R.length c2)
          obtain ⟨A3, c3, hv3, hr3, hA3⟩ := ho.val
          injection hv3 with e1 e2 e3
          subst e1 e3
          exact ⟨A2, c2, rfl, hr3, hA3, (HP.out.bel.setCell (by simp) _).setCell (by simp) _⟩
  · have heb : (e != 0) = true := by simp [he]
    have HE : Hid (parseS l = ((0, []), k, e)) := parse_he hl HH.out he
    have hs : w.heap.size < (w.alloc (.cells #[.int .i64 0, .slice none 0 0] 24)).heap.size := by simp
    have q0 : (w.alloc (.cells #[.int .i64 0, .slice none 0 0] 24)).cell? ⟨w.heap.size, 0, none⟩ = some (.int .i64 0) := by go_simp
    have q1 : (w.alloc (.cells #[.int .i64 0, .slice none 0 0] 24)).cell? ⟨w.heap.size, 1, none⟩ = some (.slice none 0 0) := by go_simp
    have q2 : (w.alloc (.cells #[.int .i64 0, .slice none 0 0] 24)).frozen? ⟨w.heap.size, 0, none⟩ = false := by go_simp
    have q3 : (w.alloc (.cells #[.int .i64 0, .slice none 0 0] 24)).frozen? ⟨w.heap.size, 1, none⟩ = false := by go_simp
    have C2 := Wrong_any (k : Int) e (w.alloc (.cells #[.int .i64 0, .slice none 0 0] 24))
    have HB := Lib.hid hB0
    generalize hw1 : w.alloc (.cells #[.int .i64 0, .slice none 0 0] 24) = w1 at *
    have HW1 := Lib.hid hw1
    clear hw1 he hB0
    go_enter Tryd.func32, Tryd.ntmps32
    go_wp2_with fail
    rw [HW1.out]
    refine C.mono ?_; rintro e w' ⟨rfl, rfl⟩
    clear C
    go_wp2_with fail
    refine C2.mono ?_; rintro e w2 ⟨rfl, hb⟩
    have p0 := (hb.cell (p := ⟨w.heap.size, 0, none⟩) hs).trans q0
    have p1 := (hb.cell (p := ⟨w.heap.size, 1, none⟩) hs).trans q1
    have p2 := (hb.frozen (p := ⟨w.heap.size, 0, none⟩) hs).trans q2
    have p3 := (hb.frozen (p := ⟨w.heap.size, 1, none⟩) hs).trans q3
    have hB := bnx HB.out hb
    have ps : w.heap.size < w2.heap.size := by have := hb.size; omega
    clear C2 hb HB q0 q1 q2 q3 hs
    go_wp2
    refine bodyPost_ret (v := .tuple #[.agg #[.int .i64 0, .slice none 0 0], .int .i64 (k : Int), .int .i64 e]) (by simp [results, Tryd.results32, go_sem, p0, p1]) rfl ?_
    rw [HE.out]
    exact ⟨none, 0, rfl, fun i hi => absurd hi (by simp), fun _ => rfl, (hB.setCell (by simp) _).setCell (by simp) _⟩
theorem Parse_any (A : Option Addr) (c : Nat) (l : List UInt8) (w : World) (h : Rd w w.heap.size A l) (hn : l.length ≤ c) (hc : c ≤ maxLen) :
    Calls Tryd.prog 32 #[.slice A l.length c] w (RetP w (parseS l).1.1 (parseS l).1.2 (parseS l).2.1 (parseS l).2.2) := by
  by_cases hl : l.length ≤ 100000
  · exact Parse_in A c l w h hn hc hl
  · have e : parseS l = ((0, []), 0, 3) := by unfold parseS; rw [if_pos (by omega)]
    rw [e]
    exact Parse_long A c l.length w (by omega) (by omega)
end Go.Proofs.YtahedhpffjgimaaDoor
/- cnf.PrintModel over the translated program. -/
namespace Go.Proofs.YtahedhpffjgimaaDoor
open Go.RowKit
/-- Variable i's literal that is true in m. -/
def litAt (m : List Bool) (i : Nat) : Int := if m.getD i false then (i : Int) + 1 else -((i : Int) + 1)
def rowM (m : List Bool) (j : Nat) : List Int := (List.range m.length).map (fun i => if i < j then litAt m i else 0)
def modL (m : List Bool) : List Int := (List.range m.length).map (litAt m)
def modS (m : List Bool) : List UInt8 := [118, 32] ++ tellS (modL m)
theorem rowM_len (m : List Bool) (j : Nat) : (rowM m j).length = m.length := by simp [rowM]
theorem rowM_zero (m : List Bool) : rowM m 0 = List.replicate m.length 0 := by
  apply List.ext_getElem
  · simp [rowM]
  · intro i h1 h2; simp [rowM]
theorem rowM_full (m : List Bool) : rowM m m.length = modL m := by
  unfold rowM modL
  apply List.map_congr_left
  intro i hi
  rw [if_pos (by simpa using hi)]
theorem rowM_next (m : List Bool) (j : Nat) (hj : j < m.length) : rowM m (j + 1) = (rowM m j).set j (litAt m j) := by
  apply List.ext_getElem
  · simp [rowM]
  · intro i h1 h2
    simp only [rowM, List.getElem_map, List.getElem_range, List.getElem_set]
    by_cases e : j = i
    · subst e; simp
    · rw [if_neg e]
      by_cases h : i < j
      · rw [if_pos (by omega), if_pos h]
      · rw [if_neg (by omega), if_neg h]
/-- Block g holds the numbers l, from its beginning on, and may be written. -/
def Iq (w : World) (g : Nat) (l : List Int) : Prop := ∀ i, i < l.length → w.cell? ⟨g, i, none⟩ = some (.int .i64 (l.getD i 0)) ∧ w.frozen? ⟨g, i, none⟩ = false
theorem Iq.below {w w' : World} {B g : Nat} {l : List Int} (h : Iq w g l) (hb : Below B w w') (hg : g < B) : Iq w' g l := fun i hi =>
  ⟨(hb.cell (p := ⟨g, i, none⟩) hg).trans (h i hi).1, (hb.frozen (p := ⟨g, i, none⟩) hg).trans (h i hi).2⟩
theorem Iq.store {w : World} {g : Nat} {l : List Int} (h : Iq w g l) (m : Nat) (hm : m < l.length) (x : Int) : Iq (w.setCell ⟨g, m, none⟩ (.int .i64 x)) g (l.set m x) := by
  intro i hi
  rw [List.length_set] at hi
  refine ⟨?_, by simp [(h i hi).2]⟩
  by_cases he : m = i
  · subst he
    have e : (l.set m x).getD m 0 = x := by simp [List.getD_eq_getElem?_getD, hm]
    rw [e]
    exact World.cell?_setCell_same _ _ _ (h m hm).1
  · have e : (l.set m x).getD i 0 = l.getD i 0 := by simp [List.getD_eq_getElem?_getD, he]
    rw [e, World.cell?_setCell_other _ _ _ _ (fun e => he (congrArg Addr.off e))]
    exact (h i hi).1
def mkO (n : Nat) : Obj := .cells (madeCells #[.int .i64 0] n) 3
theorem mkI (n : Nat) (hn : n ≤ 1000000) (w : World) : (Instr.makeSlice 26 (.int .i64 (n : Int)) (.int .i64 (n : Int))).run Tryd.prog w = .ok (.slice (some ⟨w.heap.size, 0, none⟩) n n) (w.alloc (mkO n)) := by
  obtain ⟨i0, hi0, hz0, hz1, hz2⟩ := info_parts int_info
  rw [run_make w 26 3 i0 _ Tryd.underlying26 hi0 hz0 .i64 .i64 n n (by omega) (by omega) (by rw [hz2]; omega) (by omega), hz1]
  simp [Value.cells, mkO]
theorem iq_made (w : World) (n : Nat) : Iq (w.alloc (mkO n)) w.heap.size (List.replicate n 0) := by
  intro i hi
  unfold mkO
  simp only [List.length_replicate] at hi
  have hb := (MapKept.heap_alloc w (.cells (madeCells #[.int .i64 0] n) 3)).1
  constructor
  · have hl := toList_madeCells_one (.int .i64 0) n
    simp only [World.cell?, hb]
    have e1 : (madeCells #[Value.int .i64 0] n)[i]? = some (.int .i64 0) := by
      rw [← Array.getElem?_toList, hl]; simp [hi]
    have e2 : (List.replicate n (0 : Int)).getD i 0 = 0 := by simp [List.getD_eq_getElem?_getD, hi]
    rw [e2]
    simpa using e1
  · go_simp
theorem Iq.ri {w : World} {B g : Nat} {l : List Int} (h : Iq w g l) (hg : g < B) : RI w B (some ⟨g, 0, none⟩) l := fun i hi => ⟨_, rfl, hg, by rw [add_loc]; exact (h i hi).1⟩
theorem litAt_bd (m : List Bool) (i : Nat) (h : i < 1000000) : -9223372036854775808 ≤ litAt m i ∧ litAt m i ≤ 9223372036854775807 := by unfold litAt; split <;> omega
set_option maxHeartbeats 2000000 in
set_option maxRecDepth 100000 in
theorem PrintModel_any (A : Option Addr) (c : Nat) (m : List Bool) (w : World) (h : RB w w.heap.size A m) (hm : m.length ≤ 100000) (hP : Pow w.heap.size w) :
    Calls Tryd.prog 35 #[.slice A m.length c] w (RetV w (.string ⟨(modS m).toArray⟩)) := by
  have hmk := mkI m.length (by omega)
  have H0 := Lib.hid (iq_made w m.length)
  rw [← rowM_zero] at H0
  have HR := Lib.hid h
  have HP := Lib.hid hP
  have HB0 := Lib.hid (bal (Below.refl w.heap.size w) (mkO m.length))
  clear h hP
  go_enter Tryd.func35, Tryd.ntmps35
  go_wp2
  clear hmk
  go_loopw [12] (fun i wr => ∃ j : Nat, j ≤ m.length ∧ i = .int .i64 j ∧ Iq wr w.heap.size (rowM m j) ∧ Below w.heap.size w wr ∧ w.heap.size < wr.heap.size) (fun i _ => m.length - (intOf i).toNat)
  case atStart => exact ⟨0, Nat.zero_le _, rfl, H0.out, HB0.out, by simp⟩
  case round =>
    obtain ⟨j, hj, rfl, hq, hB, hs⟩ := hrel
    clear H0 HB0
    by_cases hlt : j < m.length
    · obtain ⟨ad, rfl, hbk, hc⟩ := (HR.out.below hB) j hlt
      have hrl := rowM_len m j
      have hq1 := hq.store j (by omega) ((j : Int) + 1)
      obtain ⟨x1, x2⟩ := hq j (by omega)
      have hnx := rowM_next m j hlt
      unfold litAt at hnx
      generalize m.getD j false = b at *
      cases b
      · have hq2 := hq1.store j (by rw [List.length_set]; omega) (-((j : Int) + 1))
        rw [List.set_set, if_neg (by simp)] at *
        have HE : Hid (Iq ((wr.setCell ⟨w.heap.size, j, none⟩ (.int .i64 ((j : Int) + 1))).setCell ⟨w.heap.size, j, none⟩ (.int .i64 (-((j : Int) + 1)))) w.heap.size (rowM m (j + 1))) := by show Iq _ _ _; rw [hnx]; exact hq2
        have HB := Lib.hid hB
        clear hnx hq hq1 hq2 hrl hB
        go_wp2
        go_roundw
        case rel => exact ⟨j + 1, by omega, by go_num, HE.out, (HB.out.setCell (by simp) _).setCell (by simp) _, by simpa using hs⟩
        case measure => simp [intOf]; omega
      · rw [if_pos rfl] at hnx
        have HE : Hid (Iq (wr.setCell ⟨w.heap.size, j, none⟩ (.int .i64 ((j : Int) + 1))) w.heap.size (rowM m (j + 1))) := by show Iq _ _ _; rw [hnx]; exact hq1
        have HB := Lib.hid hB
        clear hnx hq hq1 hrl hB
        go_wp2
        go_roundw
        case rel => exact ⟨j + 1, by omega, by go_num, HE.out, HB.out.setCell (by simp) _, by simpa using hs⟩
        case measure => simp [intOf]; omega
    · obtain rfl : j = m.length := by omega
      rw [rowM_full] at hq
      have hD0 := Bd.new wr
      have hA0 := bal (Below.refl wr.heap.size wr) (.cells #[.pointer none, .slice none 0 0] 86)
      have hB1 := bnx hB hA0
      have hq1 := hq.below hA0 hs
      have hlen : (modL m).length = m.length := by simp [modL]
      have HX : Hid (∀ x ∈ modL m, -9223372036854775808 ≤ x ∧ x ≤ 9223372036854775807) := by
        intro x hx
        simp only [modL, List.mem_map, List.mem_range] at hx
        obtain ⟨i, hi, rfl⟩ := hx
        exact litAt_bd m i (by omega)
      have C1 := Write_any wr.heap.size wr.heap.size [] ⟨#[118, 32]⟩ _ hD0 (by decide)
      have HE : Hid (modS m = [118, 32] ++ tellS (modL m)) := rfl
      have HQ := Lib.hid hq1
      have HB1 := Lib.hid hB1
      generalize hw2 : wr.alloc (.cells #[.pointer none, .slice none 0 0] 86) = w2 at *
      have HW2 := Lib.hid hw2
      clear hw2 hq hq1 hB1 hD0 HR
      generalize modL m = M at *
      go_wp2_with fail
      rw [HW2.out]
      refine C1.mono ?_; rintro e w3 ⟨rfl, hD3, hb3⟩
      have hB3 := HB1.out.trans (hb3.mono (Nat.le_of_lt hs))
      have r3 : RI w3 wr.heap.size (some ⟨w.heap.size, 0, none⟩) M := (HQ.out.below hb3 hs).ri hs
      have C2 := tell_any wr.heap.size wr.heap.size _ (some ⟨w.heap.size, 0, none⟩) m.length M w3 hD3 r3 ((HP.out.below hB3).mono (Nat.le_of_lt hs)) HX.out (by decide) (by omega)
      rw [hlen] at C2
      have HB3 := Lib.hid hB3
      clear C1 HQ HB1 hD3 hb3 r3 hB3 hlen
      go_wp2_with fail
      refine C2.mono ?_; rintro e w4 ⟨rfl, hD4, hb4⟩
      have hB4 := HB3.out.trans (hb4.mono (Nat.le_of_lt hs))
      have C3 := String_any wr.heap.size wr.heap.size _ w4 hD4
      have HB4 := Lib.hid hB4
      clear C2 HB3 hD4 hb4 hB4
      go_wp2_with fail
      refine C3.mono ?_; rintro e w5 ⟨rfl, hb5⟩
      have hB5 := HB4.out.trans (hb5.mono (Nat.le_of_lt hs))
      clear C3 HB4 hb5
      go_wp2
      go_ret
      exact ⟨by rw [HE.out]; rfl, hB5⟩
end Go.Proofs.YtahedhpffjgimaaDoor
