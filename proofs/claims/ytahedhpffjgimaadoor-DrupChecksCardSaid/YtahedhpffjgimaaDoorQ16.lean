/-
  UnitMore, its way through.
  Rows of clauses that lie in a call's own memory; clauses turned.
  What a step is, and what it does.
  What a step does that takes a clause away.
  A step that takes a clause away, walked.
-/
import Derived.Test.YtahedhpffjgimaaDoorProg
import Derived.WalkKit
import Derived.WalkSpells
import Derived.WalkLawsBesides
import Derived.Lib.Hide
import Derived.BigQuiet
import Derived.Deep.QuietTactic
import Derived.Deep.RegionWith
import Derived.Deep.RegionHeld3
import Derived.Test.YtahedhpffjgimaaDoorQ15
import Derived.Maps.AppendAt
import Derived.Test.YtahedhpffjgimaaDoorQ12
import Derived.Lib.OwnBridge
set_option linter.unusedVariables false
/- UnitMore, its way through. -/
namespace Go.Proofs.YtahedhpffjgimaaDoor
open Go.RowKit
/-- 'append(s, c)', of a row of clauses and a clause. -/
theorem wpK1 {z w : World} {ops : Array Oper} {rest : List Oper} {o : Oper} {a : Act} {Q : Exit → Act → World → Prop} (hgd : o.guard = none) (s x : Operand)
    (ho : o.op = .call { callee := .builtin .append, args := #[s, x], argTypes := #[22, 22] })
    (v : Value) (L : List (List Int)) (hs : a.eval s = v) (hown : OwnK w z.heap.size v L) (MA : Option Addr) (km : Nat) (m : List Int) (hx : a.eval x = .slice (some ⟨w.heap.size, 0, none⟩) 1 1) (hr : RI z z.heap.size MA m) (h1 : m.length ≤ km) (h2 : km ≤ maxLen) (hb : Below z.heap.size z w)
    (hsz : L.length ≤ 100000)
    (h : ∀ v' w', OwnK w' z.heap.size v' (L ++ [m]) → Below z.heap.size z w' → wpList Tryd.prog ops Q rest (a.put o.dst v') w') : wpList Tryd.prog ops Q (o :: rest) a (w.alloc (.cells #[.slice MA m.length km] 26)) := by
  obtain ⟨i0, hi0, hz0, hz1, hz2⟩ := info_parts cls_info
  have hbs := hb.size
  obtain ⟨vs, how, hl, hone, hxs⟩ := hown
  refine wpList_append_own _ hgd s x 22 ho z.heap.size 26 i0 (.slice none 0 0) 1 24 Tryd.underlying22 hi0 hz0 hz1 hz2 rfl (by omega) v L.length vs hs (World.ownsRow.alloc how _) ⟨w.heap.size, 0, none⟩ 1 1 [.slice MA m.length km] hx rfl (cell_one_new _ _ _) ?_ (by unfold maxLen; omega) (by omega) (by simp; omega) ?_
  · intro u hu; simp at hu; subst hu; rfl
  · intro v' w' hown' hg _
    have hb' := (hb.alloc hbs (.cells #[.slice MA m.length km] 26)).grown hg (by simp; omega) (fun k hk => ((World.ownsRow.lt how) k hk).1)
    refine h v' w' ⟨vs ++ [.slice MA m.length km], by simpa using hown', by simp [hl], ?_, ?_⟩ hb'
    · intro u hu
      rcases List.mem_append.1 hu with h1 | h1
      · exact hone u h1
      · rw [List.mem_singleton.1 h1]; rfl
    · intro i hi
      by_cases hil : i < L.length
      · obtain ⟨A', c', e, hri, q⟩ := hxs i hil
        have e1 : (L ++ [m]).getD i [] = L.getD i [] := by simp [List.getD_eq_getElem?_getD, List.getElem?_append_left hil]
        rw [e1]
        exact ⟨A', c', by rw [List.getElem?_append_left (by omega)]; exact e, (hri.back hb).below hb', q⟩
      · have hi' : i = L.length := by simp at hi; omega
        subst hi'
        have e1 : (L ++ [m]).getD L.length [] = m := by simp [List.getD_eq_getElem?_getD]
        rw [e1]
        exact ⟨MA, km, by rw [List.getElem?_append_right (by omega), hl]; simp, hr.below hb', h1, h2⟩
theorem may_more {L : List (List Int)} {c m : List Int} (hM : May L c) (hM2 : May [] m) (h1 : L.length ≤ 40) (ht : tot L ≤ 5000000) : May (L ++ [m]) c := by
  refine ⟨?_, hM.alit, ?_, ?_, ?_, hM.alen⟩
  · intro d hd
    rcases List.mem_append.1 hd with h | h
    · exact hM.lits d h
    · rw [List.mem_singleton.1 h]; exact hM2.alit
  · rw [tot_snoc]; have := hM2.alen; omega
  · simp; omega
  · intro d hd
    rcases List.mem_append.1 hd with h | h
    · exact hM.lens d h
    · rw [List.mem_singleton.1 h]; exact hM2.alen
theorem may_again {L : List (List Int)} {c : List Int} (hM : May L c) (h : clashB L c = false) : May L (closeL L c) := by
  have hc := closed_closeL h
  have hn : (closeL L c).Nodup := (closeL_lt L c).imp (fun h e => by subst e; exact ltP_irrefl _ h)
  refine ⟨hM.lits, fun x hx => (hc.sound x hx).lit hM.lits hM.alit, hM.tot, hM.len, hM.lens, ?_⟩
  have := closed_len hc hM hn
  omega
end Go.Proofs.YtahedhpffjgimaaDoor
/- Rows of clauses that lie in a call's own memory; clauses turned. -/
namespace Go.Proofs.YtahedhpffjgimaaDoor
open Go.RowKit
/-- A clause's cells, none in the row's own block. -/
def RIx (w : World) (v : Value) (A : Option Addr) (l : List Int) : Prop :=
  ∀ i, i < l.length → ∃ ad, A = some ad ∧ ad.block < w.heap.size ∧ v.ownBlock ≠ some ad.block ∧ w.cell? (ad.add i) = some (.int .i64 (l.getD i 0))
theorem RIx.ri {w : World} {v : Value} {A : Option Addr} {l : List Int} (h : RIx w v A l) : RI w w.heap.size A l := by
  intro i hi
  obtain ⟨ad, e, h1, _, h2⟩ := h i hi
  exact ⟨ad, e, h1, h2⟩
theorem RIx.old {w w' : World} {v : Value} {A : Option Addr} {l : List Int} (h : RIx w v A l) (hb : Below w.heap.size w w') : RIx w' v A l := by
  intro i hi
  obtain ⟨ad, e, h1, h3, h2⟩ := h i hi
  exact ⟨ad, e, by have := hb.size; omega, h3, (hb.cell (by rw [block_add]; exact h1)).trans h2⟩
/-- A row of clauses that a call made for itself. -/
def OwnQ (w : World) (base : Nat) (v : Value) (L : List (List Int)) : Prop :=
  ∃ vs : List Value, w.ownsRow base 26 1 v L.length vs ∧ vs.length = L.length ∧ (∀ u ∈ vs, u.oneCell' = true) ∧ ∀ i, i < L.length → ∃ A' c', vs[i]? = some (.slice A' (L.getD i []).length c') ∧ RIx w v A' (L.getD i []) ∧ (L.getD i []).length ≤ c' ∧ c' ≤ maxLen
theorem OwnQ.nil (w : World) (base : Nat) : OwnQ w base (.slice none 0 0) [] := ⟨[], World.ownsRow_nil _ _ _ _, rfl, by simp, fun i hi => absurd hi (by simp)⟩
theorem OwnQ.old {w w' : World} {base : Nat} {v : Value} {L : List (List Int)} (h : OwnQ w base v L) (hb : Below w.heap.size w w') : OwnQ w' base v L := by
  obtain ⟨vs, ho, hl, hone, hx⟩ := h
  refine ⟨vs, ?_, hl, hone, fun i hi => ?_⟩
  · refine World.ownsRow.kept ho (row := none) ⟨hb.os, hb.tape, hb.output, hb.size, fun k hk _ => hb.block k hk⟩ ?_
    cases hv : v.ownBlock with
    | none => exact .inl rfl
    | some k => exact .inr (by simp)
  · obtain ⟨A', c', e, hr, q⟩ := hx i hi
    exact ⟨A', c', e, hr.old hb, q⟩
theorem OwnQ.val {w : World} {base : Nat} {v : Value} {L : List (List Int)} (h : OwnQ w base v L) : ∃ (A : Option Addr) (c : Nat), v = .slice A L.length c ∧ RCk w w.heap.size A L ∧ (∀ g, v.ownBlock = some g → base ≤ g ∧ g < w.heap.size) := by
  obtain ⟨vs, ho, hl, _, hx⟩ := h
  have hlt := World.ownsRow.lt ho
  rcases ho.2 with ⟨rfl, h0⟩ | ⟨g, cap, cur, rfl, hg, hh, h1, h2, h3, h4⟩
  · exact ⟨none, 0, by rw [h0], (fun i hi => by omega), hlt⟩
  · refine ⟨_, cap, rfl, fun i hi => ?_, hlt⟩
    obtain ⟨A', c', e, hr, q1, q2⟩ := hx i hi
    refine ⟨_, A', c', rfl, (World.ownsRow.lt ho g rfl).2, ?_, hr.ri, q1, q2⟩
    rw [add_loc, World.ownsRow.cellAt ho i (by omega)]
    exact e
/-- 'append(s, ..)', of a row of clauses and some that were just listed. -/
theorem wpQ {z w : World} {ops : Array Oper} {rest : List Oper} {o : Oper} {a : Act} {Q : Exit → Act → World → Prop} (hgd : o.guard = none) (s x : Operand)
    (ho : o.op = .call { callee := .builtin .append, args := #[s, x], argTypes := #[22, 22] })
    (v : Value) (L : List (List Int)) (hs : a.eval s = v) (hown : OwnQ w z.heap.size v L) (us : List Value) (M : List (List Int)) (n : Nat) (hn : us.length = n) (hul : us.length = M.length) (hone' : ∀ u ∈ us, u.oneCell' = true)
    (hus : ∀ i, i < M.length → ∃ A' c', us[i]? = some (.slice A' (M.getD i []).length c') ∧ RIx w v A' (M.getD i []) ∧ (M.getD i []).length ≤ c' ∧ c' ≤ maxLen)
    (hx : a.eval x = .slice (some ⟨w.heap.size, 0, none⟩) n n) (hb : Below z.heap.size z w) (hsz : L.length ≤ 100000) (hsm : M.length ≤ 1000)
    (h : ∀ v' w', OwnQ w' z.heap.size v' (L ++ M) → Below z.heap.size z w' → wpList Tryd.prog ops Q rest (a.put o.dst v') w') : wpList Tryd.prog ops Q (o :: rest) a (w.alloc (.cells us.toArray 26)) := by
  obtain ⟨i0, hi0, hz0, hz1, hz2⟩ := info_parts cls_info
  have hbs := hb.size
  obtain ⟨vs, how, hl, hone, hxs⟩ := hown
  subst hn
  have hlit := World.ownsRow_lit (size := 1) (e := 26) (base := 0) w us.toArray us.length (Nat.zero_le _) (by unfold maxLen; omega) (by simp)
  refine wpList_append_own_at _ hgd s x 22 ho z.heap.size 26 i0 (.slice none 0 0) 1 24 Tryd.underlying22 hi0 hz0 hz1 hz2 rfl (by omega) v L.length vs hs (World.ownsRow.alloc how _) ⟨w.heap.size, 0, none⟩ us.length us.length us hx (by simp) ?_ hone' (by unfold maxLen; omega) (by omega) (by simp; omega) ?_
  · intro j u hj
    have hjl := (List.getElem?_eq_some_iff.1 hj).1
    rw [add_loc, World.ownsRow.cellAt hlit j (by omega)]
    simpa using hj
  · intro v' w' hown' hg _ he
    have hb' := (hb.alloc hbs (.cells us.toArray 26)).grown hg (by simp; omega) (fun k hk => ((World.ownsRow.lt how) k hk).1)
    have keep : ∀ A' l, RIx w v A' l → RIx w' v' A' l := by
      intro A' l hr i hi
      obtain ⟨ad, e, h1, h3, h2⟩ := hr i hi
      refine ⟨ad, e, ?_, ?_, ?_⟩
      · have := hg.size; simp at this; omega
      · rcases he with he | he
        · rw [he]; exact h3
        · rw [he]; simp; omega
      · have hc : (w.alloc (.cells us.toArray 26)).cell? (ad.add i) = some (.int .i64 (l.getD i 0)) := Lib.cell?_alloc_some _ h2
        exact hg.cell hc (by rw [block_add]; exact fun e => h3 e.symm)
    refine h v' w' ⟨vs ++ us, by rw [List.length_append, ← hul]; exact hown', by simp [hl, hul], ?_, ?_⟩ hb'
    · intro u hu
      rcases List.mem_append.1 hu with h1 | h1
      · exact hone u h1
      · exact hone' u h1
    · intro i hi
      by_cases hil : i < L.length
      · obtain ⟨A', c', e, hri, q⟩ := hxs i hil
        have e1 : (L ++ M).getD i [] = L.getD i [] := by simp [List.getD_eq_getElem?_getD, List.getElem?_append_left hil]
        rw [e1]
        exact ⟨A', c', by rw [List.getElem?_append_left (by omega)]; exact e, keep _ _ hri, q⟩
      · have hi' : i < L.length + M.length := by simpa using hi
        obtain ⟨A', c', e, hri, q⟩ := hus (i - L.length) (by omega)
        have e1 : (L ++ M).getD i [] = M.getD (i - L.length) [] := by simp [List.getD_eq_getElem?_getD, List.getElem?_append_right (show L.length ≤ i by omega)]
        rw [e1]
        exact ⟨A', c', by rw [List.getElem?_append_right (by omega), hl]; exact e, keep _ _ hri, q⟩
/-- The clauses back to front, each turned, and as it is. -/
def backL (L : List (List Int)) (j : Nat) : List (List Int) := ((L.drop j).reverse).flatMap (fun c => [c.reverse, c])
theorem backL_next (L : List (List Int)) (j : Nat) (h : j < L.length) : backL L j = backL L (j + 1) ++ [(L.getD j []).reverse, L.getD j []] := by
  unfold backL; rw [dropC L j h]; simp
theorem backL_end (L : List (List Int)) : backL L L.length = [] := by simp [backL]
theorem backL_len (L : List (List Int)) (j : Nat) : (backL L j).length = 2 * (L.length - j) := by
  unfold backL
  have : ∀ (M : List (List Int)), (M.flatMap (fun c => [c.reverse, c])).length = 2 * M.length := by
    intro M; induction M with
    | nil => rfl
    | cons a M ih => simp [ih]; omega
  rw [this]; simp
theorem backL_mem (L : List (List Int)) (d : List Int) : d ∈ backL L 0 ↔ ∃ c ∈ L, d = c.reverse ∨ d = c := by
  unfold backL
  simp [List.mem_flatMap]
/-- The two literals of a variable. -/
def both (V n : Int) : List (List Int) := if 1 ≤ V ∧ V ≤ n then [[V, -V]] else []
theorem turned_forced {L : List (List Int)} {c : List Int} {V n : Int} {x : Int} : Forced (backL L 0 ++ both V n) c.reverse x ↔ Forced L c x := by
  constructor
  · intro h
    induction h with
    | given x hx => exact .given x (by simpa using hx)
    | unit d x hd hx _ ih =>
      rcases List.mem_append.1 hd with h1 | h1
      · obtain ⟨e, he, h2⟩ := (backL_mem L d).1 h1
        have hm : ∀ y, y ∈ d ↔ y ∈ e := fun y => by rcases h2 with rfl | rfl <;> simp
        exact .unit e x he ((hm x).1 hx) (fun y hy hne => ih y ((hm y).2 hy) hne)
      · unfold both at h1
        split at h1
        · rename_i hV
          have := List.mem_singleton.1 h1
          subst this
          simp at hx
          rcases hx with rfl | rfl
          · have := ih (-x) (by simp) (by omega); simpa using this
          · have := ih V (by simp) (by omega); exact this
        · simp at h1
  · intro h
    induction h with
    | given x hx => exact .given x (by simpa using hx)
    | unit d x hd hx _ ih => exact .unit d x (List.mem_append.2 (.inl ((backL_mem L d).2 ⟨d, hd, .inr rfl⟩))) hx ih
theorem turned_clash (L : List (List Int)) (c : List Int) (V n : Int) : clashB (backL L 0 ++ both V n) c.reverse = clashB L c := by
  rw [Bool.eq_iff_iff, clashB_iff, clashB_iff]
  constructor
  · rintro (⟨x, h1, h2⟩ | ⟨d, hd, h⟩)
    · exact .inl ⟨x, turned_forced.1 h1, turned_forced.1 h2⟩
    · rcases List.mem_append.1 hd with h1 | h1
      · obtain ⟨e, he, h2⟩ := (backL_mem L d).1 h1
        have hm : ∀ y, y ∈ d ↔ y ∈ e := fun y => by rcases h2 with rfl | rfl <;> simp
        exact .inr ⟨e, he, fun y hy => turned_forced.1 (h y ((hm y).2 hy))⟩
      · unfold both at h1
        split at h1
        · have := List.mem_singleton.1 h1
          subst this
          have a := turned_forced.1 (h V (by simp))
          have b := turned_forced.1 (h (-V) (by simp))
          exact .inl ⟨-V, a, b⟩
        · simp at h1
  · rintro (⟨x, h1, h2⟩ | ⟨d, hd, h⟩)
    · exact .inl ⟨x, turned_forced.2 h1, turned_forced.2 h2⟩
    · exact .inr ⟨d, List.mem_append.2 (.inl ((backL_mem L d).2 ⟨d, hd, .inr rfl⟩)), fun y hy => turned_forced.2 (h y hy)⟩
theorem turned_close (L : List (List Int)) (c : List Int) (V n : Int) : closeL (backL L 0 ++ both V n) c.reverse = closeL L c := by
  have hc := turned_clash L c V n
  cases h : clashB L c
  · rw [h] at hc
    exact sorted_uniq _ _ (closeL_lt _ _) (closeL_lt _ _) (fun z => by rw [closeL_mem hc, closeL_mem h, turned_forced])
  · rw [h] at hc
    rw [closeL_clash h, closeL_clash hc]
theorem turned_sort (c : List Int) : sortF c.reverse = sortF c := sorted_uniq _ _ (sortF_lt _) (sortF_lt _) (fun x => by rw [sortF_mem, sortF_mem]; simp)
theorem tot_le : ∀ (M : List (List Int)), (∀ d ∈ M, d.length ≤ 40) → tot M ≤ M.length * 42
  | [], _ => by simp [tot]
  | a :: M, hM => by
    have h1 := tot_le M (fun d hd => hM d (by simp [hd]))
    have h2 := hM a (by simp)
    have e : tot (a :: M) = (a.length + 2) + tot M := by simp [tot]
    rw [e, List.length_cons]; omega
theorem turned_may {L : List (List Int)} {c : List Int} {V n : Int} (hM : May L c) (h1 : L.length ≤ 40) (h3 : ∀ d ∈ L, d.length ≤ 40) (hn : n ≤ 60) : May (backL L 0 ++ both V n) c.reverse := by
  have hmem : ∀ d ∈ backL L 0 ++ both V n, Lits d ∧ d.length ≤ 40 := by
    intro d hd
    rcases List.mem_append.1 hd with h | h
    · obtain ⟨e, he, h2⟩ := (backL_mem L d).1 h
      refine ⟨fun y hy => hM.lits e he y (by rcases h2 with rfl | rfl; simpa using hy; exact hy), ?_⟩
      have := h3 e he
      rcases h2 with rfl | rfl
      · simpa using this
      · exact this
    · unfold both at h
      split at h
      · have := List.mem_singleton.1 h
        subst this
        refine ⟨fun y hy => ?_, by simp⟩
        simp at hy
        omega
      · simp at h
  have hlen : (backL L 0 ++ both V n).length ≤ 81 := by
    have h2 : (both V n).length ≤ 1 := by unfold both; split <;> simp
    rw [List.length_append, backL_len]; omega
  refine ⟨fun d hd => (hmem d hd).1, fun y hy => hM.alit y (by simpa using hy), ?_, by omega, fun d hd => by have := (hmem d hd).2; omega, by simpa using hM.alen⟩
  have := tot_le _ (fun d hd => (hmem d hd).2)
  omega
end Go.Proofs.YtahedhpffjgimaaDoor
/- What a step is, and what it does. -/
namespace Go.Proofs.YtahedhpffjgimaaDoor
open Go.RowKit
open Go.Lib
/-- A change: one that adds, or takes, a clause. -/
def chV (d : Bool) (v : Value) : Value := .iface (if d then 129 else 101) (.agg #[v])
set_option maxHeartbeats 800000 in
theorem changeOf_any (d : Bool) (A : Option Addr) (c : Nat) (l : List Int) (w : World) (h : RI w w.heap.size A l) (hl : l.length ≤ 1000000) :
    Calls Tryd.prog 53 #[.agg #[.bool d, .slice A l.length c]] w (fun e w' => ∃ v, e = .returned (chV d v) ∧ OwnI w' w.heap.size v (sortF l) ∧ Below w.heap.size w w') := by
  have b0 := bal (Below.refl w.heap.size w) (.cells #[.bool d, .slice A l.length c] 54)
  obtain ⟨q0, q1⟩ := box_cells w (.bool d) (.slice A l.length c) 54
  generalize hw0 : w.alloc (.cells #[.bool d, .slice A l.length c] 54) = w0 at b0 q0 q1
  have hs : w.heap.size < w0.heap.size := by rw [← hw0]; simp
  have C := sort_any A c l w0 (h.nx b0) hl
  have HW0 := Lib.hid hw0
  have HB0 := Lib.hid b0
  have HQ := Lib.hid q0
  clear h hw0
  cases d
  all_goals
    go_enter Tryd.func53, Tryd.ntmps53
    go_wp2_with fail
    rw [HW0.out]
    refine C.mono ?_; rintro e w1 ⟨v, rfl, ho, hb⟩
    have hq := (hb.cell (p := ⟨w.heap.size, 0, none⟩) hs).trans HQ.out
    obtain ⟨A1, c1, rfl, _⟩ := ho.val
    have HO := Lib.hid (ho.base b0.size)
    have HB := Lib.hid (bnx b0 hb)
    clear C ho hb
    go_wp2
    go_ret
    exact ⟨_, rfl, HO.out, HB.out⟩
set_option maxHeartbeats 800000 in
theorem add_no {z w : World} (A : Option Addr) (c : Nat) (l : List Int) (N : Int) (tv : Value) (S : List (List Int)) (hT : OwnQ w z.heap.size tv S) (hz : Below z.heap.size z w) (hr : RI w w.heap.size A l) (hM : May S l) (hcl : clashB S (negC l) = false) :
    Calls Tryd.prog 138 #[.agg #[.slice A l.length c], .int .i64 N, tv] w (fun e w' => Below z.heap.size z w' ∧ e = .returned (.tuple #[.slice none 0 0, .int .i64 6])) := by
  have b0 := bal (Below.refl w.heap.size w) (.cells #[.slice A l.length c] 101)
  have q0 : (w.alloc (.cells #[.slice A l.length c] 101)).cell? ⟨w.heap.size, 0, none⟩ = some (.slice A l.length c) := by go_simp
  generalize hw0 : w.alloc (.cells #[.slice A l.length c] 101) = w0 at b0 q0
  obtain ⟨A5, k5, rfl, h5, _⟩ := (hT.old b0).val
  have C := Refutes_any A5 A k5 c N S l w0 h5 (hr.nx b0) hM
  rw [hcl] at C
  have HZ := Lib.hid (bnx hz b0)
  have HW0 := Lib.hid hw0
  clear hT hr hM h5 hw0 hcl hz
  go_enter Tryd.func138, Tryd.ntmps138
  go_wp2_with fail
  rw [HW0.out]
  refine C.mono ?_; rintro e w1 ⟨rfl, hb⟩
  have HB := Lib.hid (bnx HZ.out hb)
  clear C hb
  go_wp2
  go_ret2
  exact ⟨HB.out, rfl⟩
set_option maxHeartbeats 1600000 in
theorem add_yes {z w : World} (A : Option Addr) (c : Nat) (l : List Int) (N : Int) (tv : Value) (S : List (List Int)) (hT : OwnQ w z.heap.size tv S) (hz : Below z.heap.size z w) (hr : RIx w tv A l) (hlc : l.length ≤ c) (hcm : c ≤ maxLen) (hM : May S l) (hS : S.length ≤ 100000) (hcl : clashB S (negC l) = true) :
    Calls Tryd.prog 138 #[.agg #[.slice A l.length c], .int .i64 N, tv] w (fun e w' => Below z.heap.size z w' ∧ ∃ v', e = .returned (.tuple #[v', .int .i64 0]) ∧ OwnQ w' z.heap.size v' (S ++ [l])) := by
  have b0 := bal (Below.refl w.heap.size w) (.cells #[.slice A l.length c] 101)
  have q0 : (w.alloc (.cells #[.slice A l.length c] 101)).cell? ⟨w.heap.size, 0, none⟩ = some (.slice A l.length c) := by go_simp
  generalize hw0 : w.alloc (.cells #[.slice A l.length c] 101) = w0 at b0 q0
  have hs : w.heap.size < w0.heap.size := by rw [← hw0]; simp
  obtain ⟨A5, k5, rfl, h5, _⟩ := (hT.old b0).val
  have C := Refutes_any A5 A k5 c N S l w0 h5 (hr.ri.nx b0) hM
  rw [hcl] at C
  have HZ := Lib.hid (bnx hz b0)
  have HW0 := Lib.hid hw0
  have HT := Lib.hid (hT.old b0)
  have HR := Lib.hid (hr.old b0)
  have HC := Lib.hid (And.intro hlc hcm)
  have HSS := Lib.hid hS
  have HQ := Lib.hid q0
  clear hT hr hM h5 hw0 hcl hz hlc hcm hS q0
  go_enter Tryd.func138, Tryd.ntmps138
  go_wp2_with fail
  rw [HW0.out]
  refine C.mono ?_; rintro e w1 ⟨rfl, hb⟩
  have hq := (hb.cell (p := ⟨w.heap.size, 0, none⟩) hs).trans HQ.out
  have hB := bnx HZ.out hb
  have hQ := HT.out.old hb
  have hR := HR.out.old hb
  clear C hb
  have hus : ∀ i, i < [l].length → ∃ A' c', [Value.slice A l.length c][i]? = some (.slice A' ([l].getD i []).length c') ∧ RIx w1 (.slice A5 S.length k5) A' ([l].getD i []) ∧ ([l].getD i []).length ≤ c' ∧ c' ≤ maxLen := by
    intro i hi
    have : i = 0 := by simp at hi; omega
    subst this
    exact ⟨A, c, by simp, hR, HC.out.1, HC.out.2⟩
  have hone : ∀ x ∈ [Value.slice A l.length c], x.oneCell' = true := by
    intro x hx; simp at hx; subst hx; rfl
  have HUS := Lib.hid hus
  have HON := Lib.hid hone
  clear hus hone hR
  go_wp2_with (first | (at_builtin; refine wpQ (us := [Value.slice A l.length c]) (M := [l]) rfl (.tmp 14) (.tmp 17) rfl _ S rfl hQ 1 rfl rfl HON.out HUS.out rfl hB HSS.out (by simp) ?_) | fail)
  intro v' wb hQ' hb'
  have H1 := Lib.hid hQ'
  have H2 := Lib.hid hb'
  obtain ⟨Ac, kc, hvc, _⟩ := hQ'.val
  obtain ⟨nc, hnc⟩ : ∃ nc, (S ++ [l]).length = nc := ⟨_, rfl⟩
  rw [hnc] at hvc
  subst hvc
  clear hQ' hb' hQ hB hnc
  go_wp2
  go_ret2
  exact ⟨H2.out, _, rfl, H1.out⟩
end Go.Proofs.YtahedhpffjgimaaDoor
/- What a step does that takes a clause away. -/
namespace Go.Proofs.YtahedhpffjgimaaDoor
open Go.RowKit
open Go.Lib Go.Sort
/-- Values of one cell. -/
abbrev One := { v : Value // v.oneCell' = true }
instance : Inhabited One := ⟨⟨.slice none 0 0, rfl⟩⟩
def oneV (x : One) : Value := x.1
theorem ones_of {vs : List Value} (h : ∀ u ∈ vs, u.oneCell' = true) : ∃ zs : List One, zs.map oneV = vs := by
  induction vs with
  | nil => exact ⟨[], rfl⟩
  | cons a vs ih =>
    obtain ⟨zs, e⟩ := ih (fun u hu => h u (by simp [hu]))
    exact ⟨⟨a, h a (by simp)⟩ :: zs, by simp [e, oneV]⟩
theorem grown_putRow {α : Type} [Inhabited α] {enc : α → Value} {w : World} {g q : Nat} {d : Array α} : w.grownBy (putRow enc (Sort.ahead w q) g 0 d) (some g) := by
  refine ⟨rfl, rfl, rfl, by simp [putRow, mapBlock, Sort.ahead], fun k hk hne => ?_⟩
  have hk' : g ≠ k := fun e => hne (by rw [e])
  simp [putRow, mapBlock, Sort.ahead, Array.getElem?_modify, hk']
theorem RIx.grown {w w' : World} {v v' : Value} {A : Option Addr} {l : List Int} {g : Nat} (h : RIx w v A l) (hg : w.grownBy w' (some g)) (hv : v.ownBlock = some g) (hv' : v'.ownBlock = some g) : RIx w' v' A l := by
  intro i hi
  obtain ⟨ad, e, h1, h3, h2⟩ := h i hi
  refine ⟨ad, e, by have := hg.size; omega, by rw [hv', ← hv]; exact h3, hg.cell h2 ?_⟩
  rw [block_add, ← hv]; exact fun e => h3 e.symm
theorem zero26 (w : World) : (zeroValue 26).run Tryd.prog w = .ok (oneV default) w := by kernel_rfl
theorem getD_cut (S : List (List Int)) (i k : Nat) : (S.take i ++ S.drop (i + 1)).getD k [] = S.getD (if k < i then k else k + 1) [] ∨ S.length ≤ i := by
  rcases Nat.lt_or_ge i S.length with hi | hi
  · left
    have hl : (S.take i).length = i := by simp; omega
    by_cases hk : k < i
    · rw [if_pos hk, List.getD_eq_getElem?_getD, List.getElem?_append_left (by omega), List.getElem?_take_of_lt hk, ← List.getD_eq_getElem?_getD]
    · rw [if_neg hk, List.getD_eq_getElem?_getD, List.getElem?_append_right (by omega), hl, List.getElem?_drop, ← List.getD_eq_getElem?_getD, show i + 1 + (k - i) = k + 1 by omega]
  · exact .inr hi
/-- A clause is cut out of a row of one's own. -/
theorem OwnQ.cut {w : World} {base g cap i q : Nat} {S : List (List Int)} (h : OwnQ w base (.slice (some ⟨g, 0, none⟩) S.length cap) S) (hi : i < S.length) :
    ∃ zs : Array One, zs.size = S.length ∧ Holds oneV w g 0 zs ∧ S.length ≤ cap ∧ cap ≤ maxLen ∧ base ≤ g ∧
      OwnQ (putRow oneV (Sort.ahead w q) g 0 (zs.toList.take i ++ zs.toList.drop (i + 1) ++ List.replicate 1 default).toArray) base (.slice (some ⟨g, 0, none⟩) (S.length - 1) cap) (S.take i ++ S.drop (i + 1)) := by
  obtain ⟨vs, ho, hl, hone, hx⟩ := h
  obtain ⟨zs, rfl⟩ := ones_of hone
  obtain ⟨g', cap', e, hbg, hgl, hnc, hcm, hlen, hH⟩ := holds_of_ownsRow ho (by simp)
  cases e
  have hcl : (S.take i ++ S.drop (i + 1)).length = S.length - 1 := by simp; omega
  refine ⟨zs.toArray, by simpa using hlen, hH, hnc, hcm, hbg, ?_⟩
  have hy : (zs.take i ++ zs.drop (i + 1) ++ List.replicate 1 default).length = S.length := by simp; omega
  have ht : (zs.take i ++ zs.drop (i + 1) ++ List.replicate 1 (default : One)).take (S.length - 1) = zs.take i ++ zs.drop (i + 1) := by
    rw [List.take_append_of_le_length (by simp; omega), List.take_of_length_le (by simp; omega)]
  have hp := ownsRow_putRow (q := q) ho hy (show S.length - 1 ≤ S.length by omega)
  rw [ht] at hp
  have hg : w.grownBy (putRow oneV (Sort.ahead w q) g 0 (zs.take i ++ zs.drop (i + 1) ++ List.replicate 1 default).toArray) (some g) := grown_putRow
  refine ⟨(zs.take i ++ zs.drop (i + 1)).map oneV, by rw [hcl]; exact hp, by rw [List.length_map, hcl]; simp; omega, ?_, ?_⟩
  · intro u hu
    obtain ⟨x, _, rfl⟩ := List.mem_map.1 hu
    exact x.2
  · intro k hk
    rw [hcl] at hk
    obtain ⟨A', c', e, hr, q1, q2⟩ := hx (if k < i then k else k + 1) (by split <;> omega)
    rcases getD_cut S i k with hd | hd
    · rw [hd]
      refine ⟨A', c', ?_, hr.grown hg rfl rfl, q1, q2⟩
      rw [← e, List.getElem?_map, List.getElem?_map]
      congr 1
      have hzl : (zs.take i).length = i := by simp; omega
      by_cases hki : k < i
      · rw [if_pos hki, List.getElem?_append_left (by omega), List.getElem?_take_of_lt hki]
      · rw [if_neg hki, List.getElem?_append_right (by omega), hzl, List.getElem?_drop, show i + 1 + (k - i) = k + 1 by omega]
    · omega
end Go.Proofs.YtahedhpffjgimaaDoor
/- A step that takes a clause away, walked. -/
namespace Go.Proofs.YtahedhpffjgimaaDoor
open Go.RowKit
open Go.Lib Go.Sort
set_option maxHeartbeats 800000 in
theorem take_no {z w : World} (A : Option Addr) (c : Nat) (l : List Int) (N : Int) (tv : Value) (S : List (List Int)) (hT : OwnQ w z.heap.size tv S) (hz : Below z.heap.size z w) (hr : RI w w.heap.size A l) (hll : l.length ≤ maxLen) (hS : S.length ≤ 100000) (hm : l ∉ S) :
    Calls Tryd.prog 145 #[.agg #[.slice A l.length c], .int .i64 N, tv] w (fun e w' => Below z.heap.size z w' ∧ e = .returned (.tuple #[.slice none 0 0, .int .i64 4])) := by
  have b0 := bal (Below.refl w.heap.size w) (.cells #[.slice A l.length c] 129)
  have q0 : (w.alloc (.cells #[.slice A l.length c] 129)).cell? ⟨w.heap.size, 0, none⟩ = some (.slice A l.length c) := by go_simp
  generalize hw0 : w.alloc (.cells #[.slice A l.length c] 129) = w0 at b0 q0
  have hs : w.heap.size < w0.heap.size := by rw [← hw0]; simp
  obtain ⟨A5, k5, rfl, h5, _⟩ := (hT.old b0).val
  have C := indexF_any w.heap.size A5 A k5 c S l w0 h5.rc (hr.nx b0) q0 (by unfold maxLen; omega) hll hs
  have HZ := Lib.hid (bnx hz b0)
  have HW0 := Lib.hid hw0
  have HM := Lib.hid hm
  clear hT hr h5 hw0 hz hm q0
  go_enter Tryd.func145, Tryd.ntmps145
  go_wp2_with fail
  rw [HW0.out]
  refine C.mono ?_; rintro e w1 ⟨r, rfl, hb, hi⟩
  have HB := Lib.hid (bnx HZ.out hb)
  clear C hb
  rcases hi with ⟨rfl, _⟩ | ⟨i, rfl, hi, e, _⟩
  · go_wp2
    go_ret2
    exact ⟨HB.out, rfl⟩
  · exact absurd (by rw [← e]; exact (by simp [List.getD_eq_getElem?_getD, hi])) HM.out
set_option maxHeartbeats 1600000 in
set_option maxRecDepth 100000 in
theorem take_yes {z w : World} (A : Option Addr) (c : Nat) (l : List Int) (N : Int) (tv : Value) (S : List (List Int)) (hT : OwnQ w z.heap.size tv S) (hz : Below z.heap.size z w) (hr : RI w w.heap.size A l) (hll : l.length ≤ maxLen) (hS : S.length ≤ 100000) (hm : l ∈ S) :
    Calls Tryd.prog 145 #[.agg #[.slice A l.length c], .int .i64 N, tv] w (fun e w' => Below z.heap.size z w' ∧ ∃ v', e = .returned (.tuple #[v', .int .i64 0]) ∧ OwnQ w' z.heap.size v' (S.erase l)) := by
  have b0 := bal (Below.refl w.heap.size w) (.cells #[.slice A l.length c] 129)
  have q0 : (w.alloc (.cells #[.slice A l.length c] 129)).cell? ⟨w.heap.size, 0, none⟩ = some (.slice A l.length c) := by go_simp
  generalize hw0 : w.alloc (.cells #[.slice A l.length c] 129) = w0 at b0 q0
  have hs : w.heap.size < w0.heap.size := by rw [← hw0]; simp
  have hT0 := hT.old b0
  obtain ⟨A5, k5, rfl, h5, _⟩ := hT0.val
  have C := indexF_any w.heap.size A5 A k5 c S l w0 h5.rc (hr.nx b0) q0 (by unfold maxLen; omega) hll hs
  have HZ := Lib.hid (bnx hz b0)
  have HW0 := Lib.hid hw0
  have HM := Lib.hid hm
  have HT := Lib.hid hT0
  have hSl := hS
  clear hT hr h5 hw0 hz hm q0 hT0
  go_enter Tryd.func145, Tryd.ntmps145
  go_wp2_with fail
  rw [HW0.out]
  refine C.mono ?_; rintro e w1 ⟨r, rfl, hb, hi⟩
  have hB := bnx HZ.out hb
  have hQ := HT.out.old hb
  clear C hb
  rcases hi with ⟨rfl, hn⟩ | ⟨i, rfl, hi, e, hf⟩
  · exact absurd HM.out hn
  · have he := erase_first hi e hf
    obtain ⟨g, cap, e5⟩ : ∃ g cap, Value.slice A5 S.length k5 = .slice (some ⟨g, 0, none⟩) S.length cap := by
      obtain ⟨vs, ho, _⟩ := hQ
      rcases ho.2 with ⟨_, h0⟩ | ⟨g, cap, cur, hv, _⟩
      · omega
      · exact ⟨g, cap, hv⟩
    injection e5 with e6 _ e7
    subst e6 e7
    have CD : Calls Tryd.prog 148 #[.slice (some ⟨g, 0, none⟩) S.length k5, .int .i64 (i : Int), .int .i64 ((i : Int) + 1)] w1 (fun e w' => e = .returned (.slice (some ⟨g, 0, none⟩) (S.length - 1) k5) ∧ OwnQ w' z.heap.size (.slice (some ⟨g, 0, none⟩) (S.length - 1) k5) (S.erase l) ∧ Below z.heap.size z w') := by
      obtain ⟨zs, h1, h2, h3, h4, h5, _⟩ := hQ.cut (q := 0) hi
      have hi0 : ∃ i0, Tryd.prog.info? 26 = some i0 ∧ i0.size = 1 := by
        obtain ⟨i0, a, b, c, d⟩ := info_parts cls_info
        exact ⟨i0, a, c⟩
      obtain ⟨i0, hi0, hz1⟩ := hi0
      have := Tryd.slices_Delete oneV (fun x => x.2) default zero26 i0 hi0 hz1 g 0 k5 i (i + 1) zs w1 h2 (by omega) (by unfold maxLen at h4; omega) (by omega) (by omega)
      rw [h1] at this
      refine this.mono ?_
      rintro e w' ⟨rfl, q, rfl⟩
      refine ⟨by rw [show i + 1 - i = 1 by omega], ?_, ?_⟩
      · obtain ⟨zs', h1', h2', _, _, _, hc⟩ := hQ.cut (q := q) hi
        have ez : zs' = zs := by
          apply Array.ext (by omega)
          intro j hj hj'
          have a1 := (h2 j hj').1
          have a2 := (h2' j hj).1
          rw [a1] at a2
          have a3 := Option.some.inj a2
          rw [getElem!_pos zs j hj', getElem!_pos zs' j hj] at a3
          exact (Subtype.ext a3).symm
        subst ez
        rw [he, show i + 1 - i = 1 by omega]
        exact hc
      · exact below_putRow hB h5
    obtain ⟨S', hS'⟩ : ∃ S', S.erase l = S' := ⟨_, rfl⟩
    rw [hS'] at CD
    have HS' := Lib.hid hS'
    have HCD := Lib.hid CD
    have hi3 : i ≤ 100000 := by omega
    clear hQ hB he e hf CD b0 hll hs hSl hS hS'
    go_wp2_with fail
    refine HCD.out.mono ?_; rintro e w2 ⟨rfl, hq, hb⟩
    have HQ := Lib.hid hq
    have HB := Lib.hid hb
    clear HCD hq hb
    go_wp2
    go_ret2
    exact ⟨HB.out, _, rfl, by rw [HS'.out]; exact HQ.out⟩
end Go.Proofs.YtahedhpffjgimaaDoor
