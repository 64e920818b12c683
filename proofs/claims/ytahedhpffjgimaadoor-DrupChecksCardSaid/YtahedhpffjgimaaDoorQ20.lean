/-
  Proofs' texts: what is parsed, as plain functions; what is printed is parsed, and the other way round.
  Rows of steps that a call made for itself.
  Parse, walked.
  The document's example, as it is told.
-/
import Derived.Test.YtahedhpffjgimaaDoorProg
import Derived.WalkKit
import Derived.WalkSpells
import Derived.WalkLawsBesides
import Derived.Lib.Hide
import Derived.BigQuiet
import Derived.Deep.QuietTactic
import Derived.Deep.RegionWith
import Derived.Deep.RegionHeld3
import Derived.Test.YtahedhpffjgimaaDoorQ19
import Derived.Test.YtahedhpffjgimaaDoorQ18
import Derived.Test.YtahedhpffjgimaaDoorQ07
set_option linter.unusedVariables false
/- Proofs' texts: what is parsed, as plain functions; what is printed is parsed, and the other way round. -/
namespace Go.Proofs.YtahedhpffjgimaaDoor
open Go.RowKit
/-- Does a step that takes away begin here; how far that word is; the clause behind it. -/
def delB (t : List UInt8) : Bool := bS t [100, 32]
def firstN (t : List UInt8) : Nat := if delB t then 2 else 0
def clR (n : Int) (t : List UInt8) : List Int × Nat × Int := rdCl n (t.drop (firstN t)) []
/-- How far a step is. -/
def stepN (n : Int) (t : List UInt8) : Nat := firstN t + (clR n t).2.1
/-- The steps that stand here, how far, what is wrong. -/
def rdP (n : Int) : Nat → List UInt8 → List Stp × Nat × Int
  | 0, _ => ([], 0, 0)
  | _ + 1, [] => ([], 0, 0)
  | f + 1, t => if (clR n t).2.2 ≠ 0 then ([], stepN n t, (clR n t).2.2)
    else if (rdP n f (t.drop (stepN n t))).2.2 ≠ 0 then ([], stepN n t + (rdP n f (t.drop (stepN n t))).2.1, (rdP n f (t.drop (stepN n t))).2.2)
    else ((delB t, (clR n t).1) :: (rdP n f (t.drop (stepN n t))).1, stepN n t + (rdP n f (t.drop (stepN n t))).2.1, 0)
theorem rdP_nil (n : Int) (f : Nat) : rdP n f [] = ([], 0, 0) := by cases f <;> rfl
theorem rdP_ne {n : Int} {f : Nat} {t : List UInt8} (h : t ≠ []) : rdP n (f + 1) t = if (clR n t).2.2 ≠ 0 then ([], stepN n t, (clR n t).2.2)
    else if (rdP n f (t.drop (stepN n t))).2.2 ≠ 0 then ([], stepN n t + (rdP n f (t.drop (stepN n t))).2.1, (rdP n f (t.drop (stepN n t))).2.2)
    else ((delB t, (clR n t).1) :: (rdP n f (t.drop (stepN n t))).1, stepN n t + (rdP n f (t.drop (stepN n t))).2.1, 0) := by
  cases t with
  | nil => exact absurd rfl h
  | cons a t => rfl
/-- Steps that were read ahead, and those that stand here. -/
def comb (P : List Stp) (k : Nat) (r : List Stp × Nat × Int) : List Stp × Nat × Int := if r.2.2 = 0 then (P ++ r.1, k + r.2.1, 0) else ([], k + r.2.1, r.2.2)
theorem comb_step {n : Int} {f : Nat} {t : List UInt8} (h : t ≠ []) (P : List Stp) (k : Nat) :
    comb P k (rdP n (f + 1) t) = if (clR n t).2.2 ≠ 0 then ([], k + stepN n t, (clR n t).2.2) else comb (P ++ [(delB t, (clR n t).1)]) (k + stepN n t) (rdP n f (t.drop (stepN n t))) := by
  rw [rdP_ne h]
  by_cases h1 : (clR n t).2.2 ≠ 0
  · rw [if_pos h1, if_pos h1]; simp [comb, h1]
  · rw [if_neg h1, if_neg h1]
    by_cases h2 : (rdP n f (t.drop (stepN n t))).2.2 ≠ 0
    · rw [if_pos h2]; simp [comb, h2, Nat.add_assoc]
    · rw [if_neg h2]
      have h3 : (rdP n f (t.drop (stepN n t))).2.2 = 0 := by simpa using h2
      simp [comb, h3, Nat.add_assoc]
theorem drop_first (t : List UInt8) : t.drop (firstN t) = if delB t then t.drop 2 else t := by unfold firstN; split <;> simp
theorem firstN_le (t : List UInt8) : firstN t ≤ t.length := by
  unfold firstN
  split
  · rename_i h; have := bS_len h; simpa using this
  · omega
theorem clR_back {n : Int} {t : List UInt8} (h : (clR n t).2.2 = 0) : t = stepS (delB t, (clR n t).1) ++ t.drop (stepN n t) ∧ stepN n t = (stepS (delB t, (clR n t).1)).length ∧ (∀ x ∈ (clR n t).1, x ≠ 0 ∧ -n ≤ x ∧ x ≤ n) ∧ (clR n t).1.length ≤ 1000 := by
  obtain ⟨lits, h1, h2, h3, h4, h5⟩ := rdCl_back n (t.drop (firstN t)).length (t.drop (firstN t)) [] (Nat.le_refl _) (by simp) h
  rw [List.nil_append] at h1
  change (clR n t).1 = lits at h1
  change t.drop (firstN t) = tellS lits ++ (t.drop (firstN t)).drop (clR n t).2.1 at h2
  change (clR n t).2.1 = _ at h3
  rw [h1]
  have hs : stepN n t = firstN t + (clR n t).2.1 := rfl
  rw [List.drop_drop] at h2
  rw [← hs] at h2
  have ha : t = t.take (firstN t) ++ t.drop (firstN t) := (List.take_append_drop _ _).symm
  have hb : t.take (firstN t) = if delB t then [100, 32] else [] := by
    unfold firstN
    cases hd : delB t
    · simp
    · have hd' : bS t [100, 32] = true := hd
      unfold bS at hd'
      simpa using hd'
  refine ⟨?_, ?_, h4, by simpa using h5⟩
  · conv => lhs; rw [ha, hb, h2]
    unfold stepS
    simp
  · rw [hs, h3]
    unfold stepS firstN
    cases delB t
    · simp
    · simp; omega
theorem stepN_two {n : Int} {t : List UInt8} (h : (clR n t).2.2 = 0) : 2 ≤ stepN n t := by
  rw [(clR_back h).2.1]; unfold stepS tellS; simp; omega
theorem stepN_le (n : Int) (t : List UInt8) : stepN n t ≤ t.length := by
  have h1 := firstN_le t
  have h2 := rdCl_len n (t.drop (firstN t)).length (t.drop (firstN t)) [] (Nat.le_refl _)
  rw [List.length_drop] at h2
  show firstN t + (rdCl n (t.drop (firstN t)) []).2.1 ≤ _
  omega
theorem rdP_fuel (n : Int) : ∀ (f f' : Nat) (t : List UInt8), t.length ≤ f → t.length ≤ f' → rdP n f t = rdP n f' t
  | 0, f', t, h, h' => by
    have : t = [] := List.eq_nil_of_length_eq_zero (by omega)
    subst this; rw [rdP_nil, rdP_nil]
  | f + 1, 0, t, h, h' => by
    have : t = [] := List.eq_nil_of_length_eq_zero (by omega)
    subst this; rw [rdP_nil, rdP_nil]
  | f + 1, f' + 1, t, h, h' => by
    by_cases ht : t = []
    · subst ht; rw [rdP_nil, rdP_nil]
    · rw [rdP_ne ht, rdP_ne ht]
      by_cases h1 : (clR n t).2.2 ≠ 0
      · rw [if_pos h1, if_pos h1]
      · have h0 : (clR n t).2.2 = 0 := by simpa using h1
        have h2 := stepN_two h0
        rw [rdP_fuel n f f' (t.drop (stepN n t)) (by simp; omega) (by simp; omega)]
/-- A text's proof. -/
def parseD (n : Int) (l : List UInt8) : List Stp × Nat × Int := rdP n l.length l
theorem rdP_len (n : Int) : ∀ (f : Nat) (t : List UInt8), (rdP n f t).2.1 ≤ t.length
  | 0, t => by simp [rdP]
  | f + 1, t => by
    by_cases ht : t = []
    · subst ht; rw [rdP_nil]; simp
    · rw [rdP_ne ht]
      have h1 := stepN_le n t
      have h2 := rdP_len n f (t.drop (stepN n t))
      rw [List.length_drop] at h2
      split
      · exact h1
      · split <;> simp only <;> omega
/-- What is parsed is right, and has its bytes for its text. -/
theorem rdP_back (n : Int) : ∀ (f : Nat) (t : List UInt8), t.length ≤ f → (rdP n f t).2.2 = 0 →
    t = printP (rdP n f t).1 ∧ (rdP n f t).2.1 = t.length ∧ (∀ s ∈ (rdP n f t).1, s.2.length ≤ 1000 ∧ ∀ x ∈ s.2, x ≠ 0 ∧ -n ≤ x ∧ x ≤ n) ∧ 2 * (rdP n f t).1.length ≤ t.length
  | 0, t, h, h0 => by
    have : t = [] := List.eq_nil_of_length_eq_zero (by omega)
    subst this; simp [rdP, printP]
  | f + 1, t, h, h0 => by
    by_cases ht : t = []
    · subst ht; rw [rdP_nil]; simp [printP]
    · rw [rdP_ne ht] at h0 ⊢
      by_cases h1 : (clR n t).2.2 ≠ 0
      · rw [if_pos h1] at h0; exact absurd h0 h1
      · rw [if_neg h1] at h0 ⊢
        by_cases h2 : (rdP n f (t.drop (stepN n t))).2.2 ≠ 0
        · rw [if_pos h2] at h0; exact absurd h0 h2
        · rw [if_neg h2]
          have h3 : (rdP n f (t.drop (stepN n t))).2.2 = 0 := by simpa using h2
          have h4 : (clR n t).2.2 = 0 := by simpa using h1
          have h5 := stepN_two h4
          have h6 := stepN_le n t
          obtain ⟨a1, a2, a3, a4⟩ := rdP_back n f (t.drop (stepN n t)) (by simp; omega) h3
          obtain ⟨b1, b2, b3, b4⟩ := clR_back h4
          rw [List.length_drop] at a2 a4
          refine ⟨?_, ?_, ?_, ?_⟩
          · show t = stepS _ ++ printP _
            rw [← a1]; exact b1
          · show stepN n t + (rdP n f (t.drop (stepN n t))).2.1 = _
            rw [a2]; omega
          · intro s hs
            rcases List.mem_cons.1 hs with rfl | hs
            · exact ⟨b4, b3⟩
            · exact a3 s hs
          · simp only [List.length_cons]; omega
theorem rdP_err (n : Int) : ∀ (f : Nat) (t : List UInt8), (rdP n f t).2.2 ≠ 0 → (rdP n f t).1 = []
  | 0, t, h => by simp [rdP] at h
  | f + 1, t, h => by
    by_cases ht : t = []
    · subst ht; rw [rdP_nil] at h; simp at h
    · rw [rdP_ne ht] at h ⊢
      split
      · rfl
      · split
        · rfl
        · rename_i h1 h2; rw [if_neg h1, if_neg h2] at h; simp at h
theorem parseD_back {n : Int} {l : List UInt8} (h0 : 0 ≤ n) (h1 : n ≤ 100000) (hl : l.length ≤ 30000) (h : (parseD n l).2.2 = 0) : rightP n (parseD n l).1 = true ∧ printP (parseD n l).1 = l ∧ (parseD n l).2.1 = l.length := by
  obtain ⟨a1, a2, a3, a4⟩ := rdP_back n l.length l (Nat.le_refl _) h
  refine ⟨rightP_mk h0 h1 (by unfold parseD; omega) a3, a1.symm, a2⟩
/-- A step's text doesn't begin as one that takes away, unless it is. -/
theorem tell_del (c : List Int) (b : List UInt8) : bS (tellS c ++ b) [100, 32] = false := by
  have key : ∀ (a : UInt8) (t : List UInt8), a.toNat ≠ 100 → bS (a :: t) [100, 32] = false := by
    intro a t h
    unfold bS
    rw [beq_eq_false_iff_ne]
    intro e
    cases t with
    | nil => simp at e
    | cons a2 t =>
      simp at e
      rw [e.1] at h; exact h rfl
  cases c with
  | nil => exact key 48 _ (by decide)
  | cons x c =>
    rcases Int.lt_or_le x 0 with hx | hx
    · obtain ⟨u, hu, hu1⟩ : ∃ u : Nat, x = -(u : Int) ∧ 1 ≤ u := ⟨(-x).toNat, by omega, by omega⟩
      have e : tellS (x :: c) ++ b = 45 :: (figs u ++ [32] ++ litsS c ++ [48, 10] ++ b) := by
        unfold tellS
        show litS x ++ litsS c ++ [48, 10] ++ b = _
        unfold litS
        rw [hu, itoa_ng u hu1]; simp
      rw [e]; exact key 45 _ (by decide)
    · obtain ⟨u, hu⟩ : ∃ u : Nat, x = (u : Int) := ⟨x.toNat, by omega⟩
      obtain ⟨a, t, ha, h1, h2⟩ := figs_hd u
      have e : tellS (x :: c) ++ b = a :: (t ++ [32] ++ litsS c ++ [48, 10] ++ b) := by
        unfold tellS
        show litS x ++ litsS c ++ [48, 10] ++ b = _
        unfold litS
        rw [hu, itoa_nn u, ha]; simp
      rw [e]; exact key a _ (by omega)
theorem step_read {n : Int} (h0 : 0 ≤ n) (h3 : n ≤ 2147483647) {s : Stp} (hs : s.2.length ≤ 1000 ∧ ∀ x ∈ s.2, x ≠ 0 ∧ -n ≤ x ∧ x ≤ n) (b : List UInt8) :
    delB (stepS s ++ b) = s.1 ∧ clR n (stepS s ++ b) = (s.2, (tellS s.2).length, 0) ∧ stepN n (stepS s ++ b) = (stepS s).length := by
  obtain ⟨d, c⟩ := s
  have hc := rdCl_print n h0 h3 b c [] hs.2 (by simpa using hs.1)
  rw [List.nil_append] at hc
  have hd : delB (stepS (d, c) ++ b) = d := by
    cases d
    · exact tell_del c b
    · unfold delB stepS; exact bS_app [100, 32] (tellS c ++ b) |> fun h => by simpa using h
  have hcl : clR n (stepS (d, c) ++ b) = (c, (tellS c).length, 0) := by
    unfold clR
    rw [drop_first, hd]
    cases d
    · simpa [stepS] using hc
    · simpa [stepS] using hc
  refine ⟨hd, hcl, ?_⟩
  unfold stepN firstN
  rw [hd, hcl]
  cases d <;> simp [stepS]; omega
/-- What is printed is parsed, whatever is behind. -/
theorem rdP_print {n : Int} (h0 : 0 ≤ n) (h3 : n ≤ 2147483647) (b : List UInt8) : ∀ (P : List Stp) (f : Nat), (∀ s ∈ P, s.2.length ≤ 1000 ∧ ∀ x ∈ s.2, x ≠ 0 ∧ -n ≤ x ∧ x ≤ n) → (printP P ++ b).length ≤ f → rdP n f (printP P ++ b) = comb P (printP P).length (rdP n b.length b)
  | [], f, hs, hf => by
    have e : printP [] ++ b = b := rfl
    rw [e] at hf ⊢
    rw [rdP_fuel n f b.length b hf (Nat.le_refl _)]
    show _ = comb [] 0 _
    unfold comb
    split
    · rename_i h; simp [← h]
    · rename_i h; rw [Nat.zero_add, ← rdP_err n _ _ h]
  | s :: P, f, hs, hf => by
    have e : printP (s :: P) ++ b = stepS s ++ (printP P ++ b) := by show (stepS s ++ printP P) ++ b = _; rw [List.append_assoc]
    have hne : printP (s :: P) ++ b ≠ [] := by rw [e]; unfold stepS tellS; simp
    obtain ⟨r1, r2, r3⟩ := step_read h0 h3 (hs s (by simp)) (printP P ++ b)
    rw [← e] at r1 r2 r3
    have hlen : (printP (s :: P) ++ b).length = (stepS s).length + (printP P ++ b).length := by rw [e, List.length_append]
    have h2 : 2 ≤ (stepS s).length := by unfold stepS tellS; simp; omega
    cases f with
    | zero => omega
    | succ f =>
      have hd : (printP (s :: P) ++ b).drop (stepN n (printP (s :: P) ++ b)) = printP P ++ b := by
        rw [r3, e, List.drop_left]
      have ih := rdP_print h0 h3 b P f (fun s hs' => hs s (by simp [hs'])) (by omega)
      rw [rdP_ne hne, r2, hd, ih, r3, r1]
      have hpl : (printP (s :: P)).length = (stepS s).length + (printP P).length := by show (stepS s ++ printP P).length = _; rw [List.length_append]
      rw [if_neg (by simp)]
      unfold comb
      by_cases hb : (rdP n b.length b).2.2 = 0
      · simp [hb, hpl, Nat.add_assoc]
      · simp [hb, hpl, Nat.add_assoc]
theorem parseD_print {n : Int} {P : List Stp} (h : rightP n P = true) : parseD n (printP P) = (P, (printP P).length, 0) := by
  obtain ⟨h0, h1, h2, h3⟩ := rightP_parts h
  have := rdP_print h0 (by omega) [] P (printP P).length h3 (by simp)
  rw [List.append_nil] at this
  unfold parseD
  rw [this]
  simp [comb, rdP_nil]
theorem parseD_both {n : Int} {P : List Stp} (h : rightP n P = true) (b : List UInt8) : (parseD n (printP P ++ b)).2.1 = (printP P).length + (parseD n b).2.1 ∧ (parseD n (printP P ++ b)).2.2 = (parseD n b).2.2 := by
  obtain ⟨h0, h1, h2, h3⟩ := rightP_parts h
  have := rdP_print h0 (by omega) b P (printP P ++ b).length h3 (Nat.le_refl _)
  unfold parseD
  rw [this]
  unfold comb
  split
  · rename_i h; exact ⟨rfl, h.symm⟩
  · exact ⟨rfl, rfl⟩
/-- Right proofs with one text are one. -/
theorem printP_apart {n : Int} {P Q : List Stp} (h : rightP n P = true) (h' : rightP n Q = true) : printP P = printP Q ↔ P = Q := by
  constructor
  · intro e
    have a := parseD_print h
    have b := parseD_print h'
    rw [e, b] at a
    injection a with a1 _
    exact a1.symm
  · rintro rfl; rfl
end Go.Proofs.YtahedhpffjgimaaDoor
/- Rows of steps that a call made for itself. -/
namespace Go.Proofs.YtahedhpffjgimaaDoor
open Go.RowKit
open Go.Lib Go.Sort
theorem stp_info : (Tryd.prog.info? 54).map (fun i => (i.zero, i.size, i.bytes)) = some (some (.agg #[.bool false, .slice none 0 0]), 2, 32) := by kernel_rfl
/-- A row of steps that a call made for itself. -/
def OwnP (w : World) (base : Nat) (v : Value) (P : List Stp) : Prop :=
  ∃ vs : List Value, w.ownsRow base 54 2 v P.length vs ∧ (∀ u ∈ vs, u.oneCell' = true) ∧ ∀ i, i < P.length → vs[i * 2]? = some (.bool (P.getD i (true, [])).1) ∧ ∃ A' c', vs[i * 2 + 1]? = some (.slice A' (P.getD i (true, [])).2.length c') ∧ RIx w v A' (P.getD i (true, [])).2 ∧ (P.getD i (true, [])).2.length ≤ c' ∧ c' ≤ maxLen
theorem OwnP.nil (w : World) (base : Nat) : OwnP w base (.slice none 0 0) [] := ⟨[], World.ownsRow_nil _ _ _ _, by simp, fun i hi => absurd hi (by simp)⟩
theorem OwnP.old {w w' : World} {base : Nat} {v : Value} {P : List Stp} (h : OwnP w base v P) (hb : Below w.heap.size w w') : OwnP w' base v P := by
  obtain ⟨vs, ho, hone, hx⟩ := h
  refine ⟨vs, ?_, hone, fun i hi => ?_⟩
  · refine World.ownsRow.kept ho (row := none) ⟨hb.os, hb.tape, hb.output, hb.size, fun k hk _ => hb.block k hk⟩ ?_
    cases hv : v.ownBlock with
    | none => exact .inl rfl
    | some k => exact .inr (by simp)
  · obtain ⟨e0, A', c', e, hr, q⟩ := hx i hi
    exact ⟨e0, A', c', e, hr.old hb, q⟩
theorem OwnP.val {w : World} {base : Nat} {v : Value} {P : List Stp} (h : OwnP w base v P) : ∃ (A : Option Addr) (c : Nat), v = .slice A P.length c ∧ RS w w.heap.size A P ∧ (∀ g, v.ownBlock = some g → base ≤ g ∧ g < w.heap.size) ∧ (A = none → c = 0) := by
  obtain ⟨vs, ho, _, hx⟩ := h
  have hlt := World.ownsRow.lt ho
  rcases ho.2 with ⟨rfl, h0⟩ | ⟨g, cap, cur, rfl, hg, hh, h1, h2, h3, h4⟩
  · exact ⟨none, 0, by rw [h0], (fun i hi => by omega), hlt, fun _ => rfl⟩
  · refine ⟨_, cap, rfl, fun i hi => ?_, hlt, fun e => by cases e⟩
    obtain ⟨e0, A', c', e, hr, q1, q2⟩ := hx i hi
    refine ⟨_, A', c', rfl, (World.ownsRow.lt ho g rfl).2, ?_, ?_, hr.ri, q1, q2⟩
    · rw [add_loc, World.ownsRow.cellAt ho (i * 2) (by omega)]; exact e0
    · rw [add_loc]
      show w.cell? ⟨g, i * 2 + 1, none⟩ = _
      rw [World.ownsRow.cellAt ho (i * 2 + 1) (by omega)]; exact e
/-- 'append(p, s)' of a step. -/
theorem wpP1 {z w : World} {ops : Array Oper} {rest : List Oper} {o : Oper} {a : Act} {Q : Exit → Act → World → Prop} (hgd : o.guard = none) (s x : Operand)
    (ho : o.op = .call { callee := .builtin .append, args := #[s, x], argTypes := #[34, 34] })
    (v : Value) (P : List Stp) (hs : a.eval s = v) (hown : OwnP w z.heap.size v P) (d : Bool) (A : Option Addr) (c : Nat) (l : List Int) (hr : RIx w v A l) (h1 : l.length ≤ c) (h2 : c ≤ maxLen)
    (hx : a.eval x = .slice (some ⟨w.heap.size, 0, none⟩) 1 1) (hb : Below z.heap.size z w) (hsz : P.length ≤ 100000)
    (h : ∀ v' w', OwnP w' z.heap.size v' (P ++ [(d, l)]) → Below z.heap.size z w' → wpList Tryd.prog ops Q rest (a.put o.dst v') w') : wpList Tryd.prog ops Q (o :: rest) a (w.alloc (.cells #[.bool d, .slice A l.length c] 54)) := by
  obtain ⟨i0, hi0, hz0, hz1, hz2⟩ := info_parts stp_info
  have hbs := hb.size
  obtain ⟨vs, how, hone, hxs⟩ := hown
  have hvl : vs.length = P.length * 2 := how.1
  have hlit := World.ownsRow_lit (size := 2) (e := 54) (base := 0) w #[.bool d, .slice A l.length c] 1 (Nat.zero_le _) (by unfold maxLen; omega) (by simp)
  refine wpList_append_own_at _ hgd s x 34 ho z.heap.size 54 i0 (.agg #[.bool false, .slice none 0 0]) 2 32 Tryd.underlying34 hi0 hz0 hz1 hz2 rfl (by omega) v P.length vs hs (World.ownsRow.alloc how _) ⟨w.heap.size, 0, none⟩ 1 1 [.bool d, .slice A l.length c] hx (by simp) ?_ ?_ (by unfold maxLen; omega) (by omega) (by simp; omega) ?_
  · intro j u hj
    have hjl := (List.getElem?_eq_some_iff.1 hj).1
    simp only [List.length_cons, List.length_nil] at hjl
    rw [add_loc, World.ownsRow.cellAt hlit j (by omega)]
    exact hj
  · intro u hu
    simp at hu
    rcases hu with rfl | rfl <;> rfl
  · intro v' w' hown' hg _ he
    have hb' := (hb.alloc hbs (.cells #[.bool d, .slice A l.length c] 54)).grown hg (by simp; omega) (fun k hk => ((World.ownsRow.lt how) k hk).1)
    have keep : ∀ A' m, RIx w v A' m → RIx w' v' A' m := by
      intro A' m hr i hi
      obtain ⟨ad, e, h1, h3, h2⟩ := hr i hi
      refine ⟨ad, e, ?_, ?_, ?_⟩
      · have := hg.size; simp at this; omega
      · rcases he with he | he
        · rw [he]; exact h3
        · rw [he]; simp; omega
      · have hc := Lib.cell?_alloc_some (.cells #[.bool d, .slice A l.length c] 54) h2
        exact hg.cell hc (by rw [block_add]; exact fun e => h3 e.symm)
    refine h v' w' ⟨vs ++ [.bool d, .slice A l.length c], by simpa using hown', ?_, ?_⟩ hb'
    · intro u hu
      rcases List.mem_append.1 hu with h1 | h1
      · exact hone u h1
      · simp at h1
        rcases h1 with rfl | rfl <;> rfl
    · intro i hi
      by_cases hil : i < P.length
      · obtain ⟨e0, A', c', e, hri, q⟩ := hxs i hil
        have e1 : (P ++ [(d, l)]).getD i (true, []) = P.getD i (true, []) := by simp [List.getD_eq_getElem?_getD, List.getElem?_append_left hil]
        rw [e1]
        exact ⟨by rw [List.getElem?_append_left (by omega)]; exact e0, A', c', by rw [List.getElem?_append_left (by omega)]; exact e, keep _ _ hri, q⟩
      · have hi' : i = P.length := by simp at hi; omega
        subst hi'
        have e1 : (P ++ [(d, l)]).getD P.length (true, []) = (d, l) := by simp [List.getD_eq_getElem?_getD]
        rw [e1]
        exact ⟨by rw [List.getElem?_append_right (by omega), hvl]; simp, A, c, by rw [List.getElem?_append_right (by omega), hvl, show P.length * 2 + 1 - P.length * 2 = 1 by omega]; rfl, keep _ _ hr, h1, h2⟩
/-- What a call tells that parses a proof. -/
def RetPP (w0 : World) (r : List Stp × Nat × Int) (e : Ending) (w' : World) : Prop := ∃ v, e = .returned (.tuple #[v, .int .i64 ((r.2.1 : Nat) : Int), .int .i64 r.2.2]) ∧ OwnP w' w0.heap.size v r.1 ∧ Below w0.heap.size w0 w'
end Go.Proofs.YtahedhpffjgimaaDoor
/- Parse, walked. -/
namespace Go.Proofs.YtahedhpffjgimaaDoor
open Go.RowKit
open Go.Lib Go.Sort
set_option maxHeartbeats 400000 in
theorem PParse_long (A : Option Addr) (c n : Nat) (N : Int) (w : World) (h : 100000 < n) (hn : n ≤ maxLen) :
    Calls Tryd.prog 21 #[.slice A n c, .int .i64 N] w (RetPP w ([], 0, 3)) := by
  unfold maxLen at hn
  have d1 : decide ((100000 : Int) < n) = true := decide_eq_true (by omega)
  clear h
  go_enter Tryd.func21, Tryd.ntmps21
  go_wp2
  go_ret3
  exact ⟨_, rfl, OwnP.nil _ _, Below.refl _ _⟩
set_option maxHeartbeats 4000000 in
set_option maxRecDepth 100000 in
theorem PParse_in (A : Option Addr) (c : Nat) (N : Int) (l : List UInt8) (w : World) (h : Rd w w.heap.size A l) (hn : l.length ≤ c) (hc : c ≤ maxLen) (hl : l.length ≤ 30000) (h0 : 0 ≤ N) (h1 : N ≤ 100000) :
    Calls Tryd.prog 21 #[.slice A l.length c, .int .i64 N] w (RetPP w (parseD N l)) := by
  have HR := Lib.hid (And.intro h (And.intro hn hc))
  have HN := Lib.hid (And.intro h0 h1)
  have d1 : decide ((100000 : Int) < (l.length : Int)) = false := decide_eq_false (by omega)
  obtain ⟨T, hT⟩ : ∃ T, parseD N l = T := ⟨_, rfl⟩
  rw [hT]
  have HT : Hid (comb [] 0 (rdP N l.length (l.drop 0)) = T ∧ ∀ s ∈ ([] : List Stp), s.2.length ≤ 1000 ∧ ∀ x ∈ s.2, x ≠ 0 ∧ -N ≤ x ∧ x ≤ N) := Lib.hid ⟨by
    rw [← hT, List.drop_zero]; unfold comb parseD
    split
    · rename_i h; simp [← h]
    · rename_i h; rw [Nat.zero_add, ← rdP_err N _ _ h], by simp⟩
  clear h hn hc hT h0 h1
  go_enter Tryd.func21, Tryd.ntmps21
  go_wp2
  go_loopg [7, 8] l.length (fun g s7 s8 wr => ∃ (k : Nat) (v : Value) (P : List Stp), k ≤ l.length ∧ l.length - k ≤ g ∧ 2 * P.length ≤ k ∧ s8 = .int .i64 k ∧ v = s7 ∧ OwnP wr w.heap.size v P ∧ Below w.heap.size w wr ∧ Hid (comb P k (rdP N g (l.drop k)) = T ∧ ∀ s ∈ P, s.2.length ≤ 1000 ∧ ∀ x ∈ s.2, x ≠ 0 ∧ -N ≤ x ∧ x ≤ N))
  case atStart => exact ⟨0, _, [], Nat.zero_le _, by omega, by simp, rfl, rfl, OwnP.nil _ _, Below.refl _ _, HT⟩
  case round =>
    obtain ⟨k, v, P, hk, hg, hp2, rfl, rfl, hown, hb, HJ⟩ := hrel
    clear HT
    by_cases hlt : k < l.length
    · cases gk with
      | zero => omega
      | succ g =>
        have hlt' : (k : Int) < l.length := by omega
        have hne : l.drop k ≠ [] := by intro e; have := congrArg List.length e; simp at this; omega
        have hcs := comb_step (n := N) (f := g) hne P k
        have hfl := firstN_le (l.drop k)
        have hsl := stepN_le N (l.drop k)
        rw [List.length_drop] at hfl hsl
        have hplen : P.length ≤ 20000 - 1 := by omega
        have dp : ((P.length : Int) == 20000) = false := by simp; omega
        have dp2 : (P.length == 20000) = false := by simp; omega
        have CI : Calls Tryd.prog 44 #[.slice A l.length c, .int .i64 k, .string ⟨#[100, 32]⟩] wr (RetS wr (.tuple #[.int .i64 ((k + firstN (l.drop k) : Nat) : Int), .bool (delB (l.drop k))])) := by
          have := Is_any A c k l ⟨#[100, 32]⟩ wr.heap.size wr ((HR.out.1.below hb).mono hb.size) hk HR.out.2.1 HR.out.2.2 (by decide)
          have e1 : isB l k ⟨#[100, 32]⟩ = delB (l.drop k) := isB_bS l k ⟨#[100, 32]⟩
          have e2 : isN l k ⟨#[100, 32]⟩ = ((k + firstN (l.drop k) : Nat) : Int) := by
            unfold isN firstN
            rw [e1]
            split <;> simp; rfl
          rw [e1, e2] at this
          exact this.mono fun e w' h => h
        have CC := readClause_any A c (k + firstN (l.drop k)) l N wr ((HR.out.1.below hb).mono hb.size) (by omega) HR.out.2.1 HR.out.2.2
        have ed : l.drop (k + firstN (l.drop k)) = (l.drop k).drop (firstN (l.drop k)) := by rw [List.drop_drop]
        rw [ed] at CC
        change Calls Tryd.prog 45 _ wr (RetC wr (if (clR N (l.drop k)).2.2 = 0 then (clR N (l.drop k)).1 else []) (k + firstN (l.drop k) + (clR N (l.drop k)).2.1) (clR N (l.drop k)).2.2) at CC
        have en : k + firstN (l.drop k) + (clR N (l.drop k)).2.1 = k + stepN N (l.drop k) := by unfold stepN; omega
        rw [en] at CC
        have hbk := fun h => clR_back (n := N) (t := l.drop k) h
        have h2n := fun h => stepN_two (n := N) (t := l.drop k) h
        have edr : (l.drop k).drop (stepN N (l.drop k)) = l.drop (k + stepN N (l.drop k)) := by rw [List.drop_drop]
        rw [edr] at hcs
        obtain ⟨F, hF⟩ : ∃ F, k + firstN (l.drop k) = F := ⟨_, rfl⟩
        obtain ⟨M, hM⟩ : ∃ M, k + stepN N (l.drop k) = M := ⟨_, rfl⟩
        rw [hF] at CI CC
        rw [hM] at CC hcs
        have hMl : M ≤ l.length := by omega
        have hFl : F ≤ l.length := by omega
        have hMk : (clR N (l.drop k)).2.2 = 0 → k + 2 ≤ M := fun h => by have := h2n h; omega
        have hcl : (clR N (l.drop k)).2.2 = 0 → (clR N (l.drop k)).1.length ≤ 1000 ∧ ∀ x ∈ (clR N (l.drop k)).1, x ≠ 0 ∧ -N ≤ x ∧ x ≤ N := fun h => ⟨(hbk h).2.2.2, (hbk h).2.2.1⟩
        obtain ⟨Ap, cp, rfl, _, hvb, _⟩ := hown.val
        have HO := Lib.hid hown
        have HB := Lib.hid hb
        have HVB := Lib.hid hvb
        rw [hcs] at HJ
        clear hown hb hfl hsl hne hbk h2n edr en ed hF hM hcs hvb
        generalize hcr : clR N (l.drop k) = r at *
        generalize delB (l.drop k) = d at *
        obtain ⟨R, m, E⟩ := r
        simp only at CC hMk hcl HJ
        by_cases hE : E = 0
        · subst hE
          rw [if_neg (by simp)] at HJ
          simp only [if_true] at CC
          have hM2 := hMk rfl
          have HCL := Lib.hid (hcl rfl)
          clear hMk hcl hcr
          go_wp2_with fail
          refine CI.mono ?_; rintro e w2 ⟨rfl, rfl⟩
          go_wp2_with fail
          refine CC.mono ?_; rintro e w3 ⟨vr, rfl, hor, hb3⟩
          obtain ⟨A3, c3, rfl, hri3, _, hl3, hm3⟩ := hor.val
          have hrx := own_rix (v := .slice Ap P.length cp) hor rfl (fun g hg => (HVB.out g hg).2)
          have hO3 := HO.out.old hb3
          have hB3 := bnx HB.out hb3
          have HP2 := Lib.hid hp2
          clear CI CC hor hb3 hri3
          go_wp2_with (first | (at_builtin; refine wpP1 (z := w) rfl (.tmp 49) (.tmp 53) rfl _ P rfl hO3 d A3 c3 R hrx hl3 hm3 rfl hB3 (by omega) ?_) | fail)
          intro v' wb hO' hb'
          have HO' := Lib.hid hO'
          have HB' := Lib.hid hb'
          clear hO' hb' hO3 hB3 hrx
          go_wp2
          go_roundg g
          case measure => omega
          case rel =>
            refine ⟨M, v', P ++ [(d, R)], hMl, by omega, by simp; have := HP2.out; omega, rfl, rfl, HO'.out, HB'.out, Lib.hid ⟨HJ.out.1, fun s hs => ?_⟩⟩
            rcases List.mem_append.1 hs with h' | h'
            · exact HJ.out.2 s h'
            · rw [List.mem_singleton.1 h']; exact HCL.out
        · rw [if_pos hE] at HJ
          have hE2 : (E != 0) = true := by simpa using hE
          simp only [if_neg hE] at CC
          obtain rfl := HJ.out.1
          clear hMk hcl hcr HJ hE
          go_wp2_with fail
          refine CI.mono ?_; rintro e w2 ⟨rfl, rfl⟩
          go_wp2_with fail
          refine CC.mono ?_; rintro e w3 ⟨vr, rfl, hor, hb3⟩
          obtain ⟨A3, c3, rfl, _⟩ := hor.val
          have HB3 := Lib.hid (bnx HB.out hb3)
          clear CI CC hor hb3
          go_wp2
          go_ret3
          exact ⟨_, rfl, OwnP.nil _ _, HB3.out⟩
    · obtain rfl : k = l.length := by omega
      have n1 : ¬ ((l.length : Int) < l.length) := by omega
      have n2 : ¬ (l.length < l.length) := by omega
      have e := HJ.out.1
      rw [List.drop_length, rdP_nil] at e
      have e2 : comb P l.length ([], 0, 0) = (P, l.length, 0) := by simp [comb]
      rw [e2] at e
      subst e
      have hrp : rightP N P = true := rightP_mk HN.out.1 HN.out.2 (by omega) HJ.out.2
      obtain ⟨Ap, cp, rfl, hrs, _⟩ := hown.val
      have C := PRight_any Ap cp N P wr hrs (by omega)
      rw [hrp] at C
      have HO := Lib.hid hown
      have HB := Lib.hid hb
      clear hown hb hrs hrp HJ
      go_wp2_with fail
      refine C.mono ?_; rintro e w2 ⟨rfl, hb2⟩
      have HB2 := Lib.hid (bnx HB.out hb2)
      have HO2 := Lib.hid (HO.out.old hb2)
      clear C hb2
      go_wp2
      go_ret3
      exact ⟨_, rfl, HO2.out, HB2.out⟩
theorem PParse_any (A : Option Addr) (c : Nat) (N : Int) (l : List UInt8) (w : World) (h : Rd w w.heap.size A l) (hn : l.length ≤ c) (hc : c ≤ maxLen) (hl : l.length ≤ 30000) (h0 : 0 ≤ N) (h1 : N ≤ 100000) :
    Calls Tryd.prog 21 #[.slice A l.length c, .int .i64 N] w (RetPP w (parseD N l)) := PParse_in A c N l w h hn hc hl h0 h1
end Go.Proofs.YtahedhpffjgimaaDoor
/- The document's example, as it is told. -/
namespace Go.Proofs.YtahedhpffjgimaaDoor
open Go.RowKit
open Go.Lib Go.Sort
def L4 : List (List Int) := [[1, 2], [1, -2], [-1, 2], [-1, -2]]
def P2 : List Stp := [(false, [1]), (false, [])]
theorem ex_printP : printP P2 = [49, 32, 48, 10, 48, 10] := by
  have e1 : Lib.itoa 1 = [49] := by rw [show (1 : Int) = ((1 : Nat) : Int) from rfl, itoa_nn, figs_last 1 (by omega)]; rfl
  simp [printP, P2, stepS, tellS, litsS, litS, e1]
theorem ex_rightP : rightP 2 P2 = true := by decide
theorem ex_parseD : parseD 2 [49, 32, 48, 10, 48, 10] = (P2, 6, 0) := by
  have := parseD_print ex_rightP
  rw [ex_printP] at this
  exact this
theorem exc1 : clashB L4 (negC [1]) = true := by
  refine (clashB_iff _ _).2 (.inr ⟨[1, -2], by simp [L4], fun y hy => ?_⟩)
  have h1 : Forced L4 (negC [1]) (-1) := .given _ (by simp [negC])
  have h2 : Forced L4 (negC [1]) 2 := .unit [1, 2] 2 (by simp [L4]) (by simp) (fun y hy hne => by
    simp at hy
    rcases hy with rfl | rfl
    · exact h1
    · exact absurd rfl hne)
  simp at hy
  rcases hy with rfl | rfl
  · exact h1
  · exact h2
theorem exc2 : clashB (L4 ++ [[1]]) (negC []) = true := by
  refine (clashB_iff _ _).2 (.inr ⟨[-1, -2], by simp [L4], fun y hy => ?_⟩)
  have h1 : Forced (L4 ++ [[1]]) (negC []) 1 := .unit [1] 1 (by simp) (by simp) (fun y hy hne => by
    simp at hy; exact absurd hy hne)
  have h2 : Forced (L4 ++ [[1]]) (negC []) 2 := .unit [-1, 2] 2 (by simp [L4]) (by simp) (fun y hy hne => by
    simp at hy
    rcases hy with rfl | rfl
    · exact h1
    · exact absurd rfl hne)
  simp at hy
  rcases hy with rfl | rfl
  · exact h1
  · exact h2
theorem ex_check : checkQ (setsOf L4) 0 P2 = (1, 0) := by
  unfold P2
  rw [checkQ_add (by rw [clashB_sets]; exact exc1) (by simp)]
  refine checkQ_end ?_
  rw [← setsOf_app, clashB_sets]
  exact exc2
theorem ex_none : checkQ (setsOf L4) 0 [] = (0, 6) := rfl
theorem ex_gd : Gd L4 1000 := ⟨by simp [L4], fun c hc => by
  simp [L4] at hc
  rcases hc with rfl | rfl | rfl | rfl <;> exact ⟨fun x hx => by simp at hx; omega, by simp⟩⟩
theorem ex_lits : ∀ s ∈ P2, Lits s.2 ∧ s.2.length ≤ 1000 := fun s hs => by
  simp [P2] at hs
  rcases hs with rfl | rfl <;> exact ⟨fun x hx => by simp at hx; try omega, by simp⟩
theorem ex_okp : Okp P2 := ⟨by simp [P2], fun s hs => by
  simp [P2] at hs
  rcases hs with rfl | rfl <;> exact ⟨by simp, fun x hx => by simp at hx; try omega⟩⟩
/-- The example's formula, as it is laid. -/
def exD (w : World) : World := (((((w.alloc (.cells #[.int .i64 1, .int .i64 2] 3)).alloc (.cells #[.int .i64 1, .int .i64 (-2)] 3)).alloc (.cells #[.int .i64 (-1), .int .i64 2] 3)).alloc (.cells #[.int .i64 (-1), .int .i64 (-2)] 3)).alloc (.cells #[.slice (some ⟨w.heap.size, 0, none⟩) 2 2, .slice (some ⟨w.heap.size + 1, 0, none⟩) 2 2, .slice (some ⟨w.heap.size + 1 + 1, 0, none⟩) 2 2, .slice (some ⟨w.heap.size + 1 + 1 + 1, 0, none⟩) 2 2] 26)).alloc (.cells #[.int .i64 2, .slice (some ⟨w.heap.size + 1 + 1 + 1 + 1, 0, none⟩) 4 4] 24)
theorem exD_size (w : World) : (exD w).heap.size = w.heap.size + 1 + 1 + 1 + 1 + 1 + 1 := by simp [exD]
theorem exD_below (w : World) : Below w.heap.size w (exD w) := bal (bal (bal (bal (bal (bal (Below.refl _ _) _) _) _) _) _) _
theorem exD_f (w : World) : (exD w).cell? ⟨w.heap.size + 1 + 1 + 1 + 1 + 1, 0, none⟩ = some (.int .i64 2) ∧ (exD w).cell? ⟨w.heap.size + 1 + 1 + 1 + 1 + 1, 1, none⟩ = some (.slice (some ⟨w.heap.size + 1 + 1 + 1 + 1, 0, none⟩) 4 4) := by
  constructor <;> (unfold exD; go_simp)
theorem exD_two (w : World) (b : Nat) (x y : Int) (hb : b < (exD w).heap.size) (h0 : (exD w).cell? ⟨b, 0, none⟩ = some (.int .i64 x)) (h1 : (exD w).cell? ⟨b, 1, none⟩ = some (.int .i64 y)) : RI (exD w) (exD w).heap.size (some ⟨b, 0, none⟩) [x, y] := by
  intro i hi
  have : i = 0 ∨ i = 1 := by simp at hi; omega
  rcases this with rfl | rfl
  · exact ⟨_, rfl, hb, by rw [add_loc]; exact h0⟩
  · exact ⟨_, rfl, hb, by rw [add_loc]; exact h1⟩
theorem exD_rc (w : World) : RCk (exD w) (exD w).heap.size (some ⟨w.heap.size + 1 + 1 + 1 + 1, 0, none⟩) L4 := by
  have hs := exD_size w
  intro i hi
  have : i = 0 ∨ i = 1 ∨ i = 2 ∨ i = 3 := by simp [L4] at hi; omega
  rcases this with rfl | rfl | rfl | rfl
  · exact ⟨_, some ⟨w.heap.size, 0, none⟩, 2, rfl, by rw [hs]; show w.heap.size + 1 + 1 + 1 + 1 < _; omega, by rw [add_loc]; unfold exD; go_simp; rfl, exD_two w _ 1 2 (by rw [hs]; omega) (by unfold exD; go_simp) (by unfold exD; go_simp), by decide, by decide⟩
  · exact ⟨_, some ⟨w.heap.size + 1, 0, none⟩, 2, rfl, by rw [hs]; show w.heap.size + 1 + 1 + 1 + 1 < _; omega, by rw [add_loc]; unfold exD; go_simp; rfl, exD_two w _ 1 (-2) (by rw [hs]; omega) (by unfold exD; go_simp) (by unfold exD; go_simp), by decide, by decide⟩
  · exact ⟨_, some ⟨w.heap.size + 1 + 1, 0, none⟩, 2, rfl, by rw [hs]; show w.heap.size + 1 + 1 + 1 + 1 < _; omega, by rw [add_loc]; unfold exD; go_simp; rfl, exD_two w _ (-1) 2 (by rw [hs]; omega) (by unfold exD; go_simp) (by unfold exD; go_simp), by decide, by decide⟩
  · exact ⟨_, some ⟨w.heap.size + 1 + 1 + 1, 0, none⟩, 2, rfl, by rw [hs]; show w.heap.size + 1 + 1 + 1 + 1 < _; omega, by rw [add_loc]; unfold exD; go_simp; rfl, exD_two w _ (-1) (-2) (by rw [hs]; omega) (by unfold exD; go_simp) (by unfold exD; go_simp), by decide, by decide⟩
end Go.Proofs.YtahedhpffjgimaaDoor
