/-
  Rows of clauses that lie in a call's own memory; clauses turned.
-/
import Derived.Test.YtlebagdildpkmaaProg
import Derived.WalkKit
import Derived.WalkSpells
import Derived.WalkLawsBesides
import Derived.Lib.Hide
import Derived.BigQuiet
import Derived.Deep.QuietTactic
import Derived.Deep.RegionWith
import Derived.Deep.RegionHeld3
import Derived.Test.YtlebagdildpkmaaD6w
import Derived.Maps.AppendAt
set_option linter.unusedVariables false
namespace Go.Proofs.Ytlebagdildpkmaa
open Go.RowKit
/-- A clause's cells, none in the row's own block. -/
def RIx (w : World) (v : Value) (A : Option Addr) (l : List Int) : Prop :=
  ∀ i, i < l.length → ∃ ad, A = some ad ∧ ad.block < w.heap.size ∧ v.ownBlock ≠ some ad.block ∧ w.cell? (ad.add i) = some (.int .i64 (l.getD i 0))
theorem RIx.ri {w : World} {v : Value} {A : Option Addr} {l : List Int} (h : RIx w v A l) : RI w w.heap.size A l := by
  intro i hi
  obtain ⟨ad, e, h1, _, h2⟩ := h i hi
  exact ⟨ad, e, h1, h2⟩
theorem RIx.old {w w' : World} {v : Value} {A : Option Addr} {l : List Int} (h : RIx w v A l) (hb : Below w.heap.size w w') : RIx w' v A l := by
  intro i hi
  obtain ⟨ad, e, h1, h3, h2⟩ := h i hi
  exact ⟨ad, e, by have := hb.size; omega, h3, (hb.cell (by rw [block_add]; exact h1)).trans h2⟩
/-- A row of clauses that a call made for itself. -/
def OwnQ (w : World) (base : Nat) (v : Value) (L : List (List Int)) : Prop :=
  ∃ vs : List Value, w.ownsRow base 23 1 v L.length vs ∧ vs.length = L.length ∧ (∀ u ∈ vs, u.oneCell' = true) ∧ ∀ i, i < L.length → ∃ A' c', vs[i]? = some (.slice A' (L.getD i []).length c') ∧ RIx w v A' (L.getD i []) ∧ (L.getD i []).length ≤ c' ∧ c' ≤ maxLen
theorem OwnQ.nil (w : World) (base : Nat) : OwnQ w base (.slice none 0 0) [] := ⟨[], World.ownsRow_nil _ _ _ _, rfl, by simp, fun i hi => absurd hi (by simp)⟩
theorem OwnQ.old {w w' : World} {base : Nat} {v : Value} {L : List (List Int)} (h : OwnQ w base v L) (hb : Below w.heap.size w w') : OwnQ w' base v L := by
  obtain ⟨vs, ho, hl, hone, hx⟩ := h
  refine ⟨vs, ?_, hl, hone, fun i hi => ?_⟩
  · refine World.ownsRow.kept ho (row := none) ⟨hb.os, hb.tape, hb.output, hb.size, fun k hk _ => hb.block k hk⟩ ?_
    cases hv : v.ownBlock with
    | none => exact .inl rfl
    | some k => exact .inr (by simp)
  · obtain ⟨A', c', e, hr, q⟩ := hx i hi
    exact ⟨A', c', e, hr.old hb, q⟩
theorem OwnQ.val {w : World} {base : Nat} {v : Value} {L : List (List Int)} (h : OwnQ w base v L) : ∃ (A : Option Addr) (c : Nat), v = .slice A L.length c ∧ RCk w w.heap.size A L ∧ (∀ g, v.ownBlock = some g → base ≤ g ∧ g < w.heap.size) := by
  obtain ⟨vs, ho, hl, _, hx⟩ := h
  have hlt := World.ownsRow.lt ho
  rcases ho.2 with ⟨rfl, h0⟩ | ⟨g, cap, cur, rfl, hg, hh, h1, h2, h3, h4⟩
  · exact ⟨none, 0, by rw [h0], (fun i hi => by omega), hlt⟩
  · refine ⟨_, cap, rfl, fun i hi => ?_, hlt⟩
    obtain ⟨A', c', e, hr, q1, q2⟩ := hx i hi
    refine ⟨_, A', c', rfl, (World.ownsRow.lt ho g rfl).2, ?_, hr.ri, q1, q2⟩
    rw [add_loc, World.ownsRow.cellAt ho i (by omega)]
    exact e
/-- 'append(s, ..)', of a row of clauses and some that were just listed. -/
theorem wpQ {z w : World} {ops : Array Oper} {rest : List Oper} {o : Oper} {a : Act} {Q : Exit → Act → World → Prop} (hgd : o.guard = none) (s x : Operand)
    (ho : o.op = .call { callee := .builtin .append, args := #[s, x], argTypes := #[22, 22] })
    (v : Value) (L : List (List Int)) (hs : a.eval s = v) (hown : OwnQ w z.heap.size v L) (us : List Value) (M : List (List Int)) (n : Nat) (hn : us.length = n) (hul : us.length = M.length) (hone' : ∀ u ∈ us, u.oneCell' = true)
    (hus : ∀ i, i < M.length → ∃ A' c', us[i]? = some (.slice A' (M.getD i []).length c') ∧ RIx w v A' (M.getD i []) ∧ (M.getD i []).length ≤ c' ∧ c' ≤ maxLen)
    (hx : a.eval x = .slice (some ⟨w.heap.size, 0, none⟩) n n) (hb : Below z.heap.size z w) (hsz : L.length ≤ 100000) (hsm : M.length ≤ 1000)
    (h : ∀ v' w', OwnQ w' z.heap.size v' (L ++ M) → Below z.heap.size z w' → wpList Try.prog ops Q rest (a.put o.dst v') w') : wpList Try.prog ops Q (o :: rest) a (w.alloc (.cells us.toArray 23)) := by
  obtain ⟨i0, hi0, hz0, hz1, hz2⟩ := info_parts cls_info
  have hbs := hb.size
  obtain ⟨vs, how, hl, hone, hxs⟩ := hown
  subst hn
  have hlit := World.ownsRow_lit (size := 1) (e := 23) (base := 0) w us.toArray us.length (Nat.zero_le _) (by unfold maxLen; omega) (by simp)
  refine wpList_append_own_at _ hgd s x 22 ho z.heap.size 23 i0 (.slice none 0 0) 1 24 Try.underlying22 hi0 hz0 hz1 hz2 rfl (by omega) v L.length vs hs (World.ownsRow.alloc how _) ⟨w.heap.size, 0, none⟩ us.length us.length us hx (by simp) ?_ hone' (by unfold maxLen; omega) (by omega) (by simp; omega) ?_
  · intro j u hj
    have hjl := (List.getElem?_eq_some_iff.1 hj).1
    rw [add_loc, World.ownsRow.cellAt hlit j (by omega)]
    simpa using hj
  · intro v' w' hown' hg _ he
    have hb' := (hb.alloc hbs (.cells us.toArray 23)).grown hg (by simp; omega) (fun k hk => ((World.ownsRow.lt how) k hk).1)
    have keep : ∀ A' l, RIx w v A' l → RIx w' v' A' l := by
      intro A' l hr i hi
      obtain ⟨ad, e, h1, h3, h2⟩ := hr i hi
      refine ⟨ad, e, ?_, ?_, ?_⟩
      · have := hg.size; simp at this; omega
      · rcases he with he | he
        · rw [he]; exact h3
        · rw [he]; simp; omega
      · have hc : (w.alloc (.cells us.toArray 23)).cell? (ad.add i) = some (.int .i64 (l.getD i 0)) := Lib.cell?_alloc_some _ h2
        exact hg.cell hc (by rw [block_add]; exact fun e => h3 e.symm)
    refine h v' w' ⟨vs ++ us, by rw [List.length_append, ← hul]; exact hown', by simp [hl, hul], ?_, ?_⟩ hb'
    · intro u hu
      rcases List.mem_append.1 hu with h1 | h1
      · exact hone u h1
      · exact hone' u h1
    · intro i hi
      by_cases hil : i < L.length
      · obtain ⟨A', c', e, hri, q⟩ := hxs i hil
        have e1 : (L ++ M).getD i [] = L.getD i [] := by simp [List.getD_eq_getElem?_getD, List.getElem?_append_left hil]
        rw [e1]
        exact ⟨A', c', by rw [List.getElem?_append_left (by omega)]; exact e, keep _ _ hri, q⟩
      · have hi' : i < L.length + M.length := by simpa using hi
        obtain ⟨A', c', e, hri, q⟩ := hus (i - L.length) (by omega)
        have e1 : (L ++ M).getD i [] = M.getD (i - L.length) [] := by simp [List.getD_eq_getElem?_getD, List.getElem?_append_right (show L.length ≤ i by omega)]
        rw [e1]
        exact ⟨A', c', by rw [List.getElem?_append_right (by omega), hl]; exact e, keep _ _ hri, q⟩
/-- The clauses back to front, each turned, and as it is. -/
def backL (L : List (List Int)) (j : Nat) : List (List Int) := ((L.drop j).reverse).flatMap (fun c => [c.reverse, c])
theorem backL_next (L : List (List Int)) (j : Nat) (h : j < L.length) : backL L j = backL L (j + 1) ++ [(L.getD j []).reverse, L.getD j []] := by
  unfold backL; rw [dropC L j h]; simp
theorem backL_end (L : List (List Int)) : backL L L.length = [] := by simp [backL]
theorem backL_len (L : List (List Int)) (j : Nat) : (backL L j).length = 2 * (L.length - j) := by
  unfold backL
  have : ∀ (M : List (List Int)), (M.flatMap (fun c => [c.reverse, c])).length = 2 * M.length := by
    intro M; induction M with
    | nil => rfl
    | cons a M ih => simp [ih]; omega
  rw [this]; simp
theorem backL_mem (L : List (List Int)) (d : List Int) : d ∈ backL L 0 ↔ ∃ c ∈ L, d = c.reverse ∨ d = c := by
  unfold backL
  simp [List.mem_flatMap]
/-- The two literals of a variable. -/
def both (V n : Int) : List (List Int) := if 1 ≤ V ∧ V ≤ n then [[V, -V]] else []
theorem turned_forced {L : List (List Int)} {c : List Int} {V n : Int} {x : Int} : Forced (backL L 0 ++ both V n) c.reverse x ↔ Forced L c x := by
  constructor
  · intro h
    induction h with
    | given x hx => exact .given x (by simpa using hx)
    | unit d x hd hx _ ih =>
      rcases List.mem_append.1 hd with h1 | h1
      · obtain ⟨e, he, h2⟩ := (backL_mem L d).1 h1
        have hm : ∀ y, y ∈ d ↔ y ∈ e := fun y => by rcases h2 with rfl | rfl <;> simp
        exact .unit e x he ((hm x).1 hx) (fun y hy hne => ih y ((hm y).2 hy) hne)
      · unfold both at h1
        split at h1
        · rename_i hV
          have := List.mem_singleton.1 h1
          subst this
          simp at hx
          rcases hx with rfl | rfl
          · have := ih (-x) (by simp) (by omega); simpa using this
          · have := ih V (by simp) (by omega); exact this
        · simp at h1
  · intro h
    induction h with
    | given x hx => exact .given x (by simpa using hx)
    | unit d x hd hx _ ih => exact .unit d x (List.mem_append.2 (.inl ((backL_mem L d).2 ⟨d, hd, .inr rfl⟩))) hx ih
theorem turned_clash (L : List (List Int)) (c : List Int) (V n : Int) : clashB (backL L 0 ++ both V n) c.reverse = clashB L c := by
  rw [Bool.eq_iff_iff, clashB_iff, clashB_iff]
  constructor
  · rintro (⟨x, h1, h2⟩ | ⟨d, hd, h⟩)
    · exact .inl ⟨x, turned_forced.1 h1, turned_forced.1 h2⟩
    · rcases List.mem_append.1 hd with h1 | h1
      · obtain ⟨e, he, h2⟩ := (backL_mem L d).1 h1
        have hm : ∀ y, y ∈ d ↔ y ∈ e := fun y => by rcases h2 with rfl | rfl <;> simp
        exact .inr ⟨e, he, fun y hy => turned_forced.1 (h y ((hm y).2 hy))⟩
      · unfold both at h1
        split at h1
        · have := List.mem_singleton.1 h1
          subst this
          have a := turned_forced.1 (h V (by simp))
          have b := turned_forced.1 (h (-V) (by simp))
          exact .inl ⟨-V, a, b⟩
        · simp at h1
  · rintro (⟨x, h1, h2⟩ | ⟨d, hd, h⟩)
    · exact .inl ⟨x, turned_forced.2 h1, turned_forced.2 h2⟩
    · exact .inr ⟨d, List.mem_append.2 (.inl ((backL_mem L d).2 ⟨d, hd, .inr rfl⟩)), fun y hy => turned_forced.2 (h y hy)⟩
theorem turned_close (L : List (List Int)) (c : List Int) (V n : Int) : closeL (backL L 0 ++ both V n) c.reverse = closeL L c := by
  have hc := turned_clash L c V n
  cases h : clashB L c
  · rw [h] at hc
    exact sorted_uniq _ _ (closeL_lt _ _) (closeL_lt _ _) (fun z => by rw [closeL_mem hc, closeL_mem h, turned_forced])
  · rw [h] at hc
    rw [closeL_clash h, closeL_clash hc]
theorem turned_sort (c : List Int) : sortF c.reverse = sortF c := sorted_uniq _ _ (sortF_lt _) (sortF_lt _) (fun x => by rw [sortF_mem, sortF_mem]; simp)
theorem tot_le : ∀ (M : List (List Int)), (∀ d ∈ M, d.length ≤ 40) → tot M ≤ M.length * 42
  | [], _ => by simp [tot]
  | a :: M, hM => by
    have h1 := tot_le M (fun d hd => hM d (by simp [hd]))
    have h2 := hM a (by simp)
    have e : tot (a :: M) = (a.length + 2) + tot M := by simp [tot]
    rw [e, List.length_cons]; omega
theorem turned_may {L : List (List Int)} {c : List Int} {V n : Int} (hM : May L c) (h1 : L.length ≤ 40) (h3 : ∀ d ∈ L, d.length ≤ 40) (hn : n ≤ 60) : May (backL L 0 ++ both V n) c.reverse := by
  have hmem : ∀ d ∈ backL L 0 ++ both V n, Lits d ∧ d.length ≤ 40 := by
    intro d hd
    rcases List.mem_append.1 hd with h | h
    · obtain ⟨e, he, h2⟩ := (backL_mem L d).1 h
      refine ⟨fun y hy => hM.lits e he y (by rcases h2 with rfl | rfl; simpa using hy; exact hy), ?_⟩
      have := h3 e he
      rcases h2 with rfl | rfl
      · simpa using this
      · exact this
    · unfold both at h
      split at h
      · have := List.mem_singleton.1 h
        subst this
        refine ⟨fun y hy => ?_, by simp⟩
        simp at hy
        omega
      · simp at h
  have hlen : (backL L 0 ++ both V n).length ≤ 81 := by
    have h2 : (both V n).length ≤ 1 := by unfold both; split <;> simp
    rw [List.length_append, backL_len]; omega
  refine ⟨fun d hd => (hmem d hd).1, fun y hy => hM.alit y (by simpa using hy), ?_, by omega, fun d hd => by have := (hmem d hd).2; omega, by simpa using hM.alen⟩
  have := tot_le _ (fun d hd => (hmem d hd).2)
  omega
end Go.Proofs.Ytlebagdildpkmaa
