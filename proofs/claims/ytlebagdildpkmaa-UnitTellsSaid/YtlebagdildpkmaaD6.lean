/-
  UnitMore, walked.
-/
import Derived.Test.YtlebagdildpkmaaProg
import Derived.WalkKit
import Derived.WalkSpells
import Derived.WalkLawsBesides
import Derived.Lib.Hide
import Derived.BigQuiet
import Derived.Deep.QuietTactic
import Derived.Deep.RegionWith
import Derived.Deep.RegionHeld3
import Derived.Test.YtlebagdildpkmaaD5
import Derived.Deep.AppendSrc
set_option linter.unusedVariables false
namespace Go.Proofs.Ytlebagdildpkmaa
open Go.RowKit
theorem cls_info : (Try.prog.info? 23).map (fun i => (i.zero, i.size, i.bytes)) = some (some (.slice none 0 0), 1, 24) := by kernel_rfl
/-- A row of clauses that a call made for itself; the clauses lie in older blocks. -/
def OwnK (w : World) (base : Nat) (v : Value) (L : List (List Int)) : Prop :=
  ∃ vs : List Value, w.ownsRow base 23 1 v L.length vs ∧ vs.length = L.length ∧ (∀ u ∈ vs, u.oneCell' = true) ∧ ∀ i, i < L.length → ∃ A' c', vs[i]? = some (.slice A' (L.getD i []).length c') ∧ RI w base A' (L.getD i []) ∧ (L.getD i []).length ≤ c' ∧ c' ≤ maxLen
theorem RCk.vals {w : World} {B : Nat} {A : Option Addr} {L : List (List Int)} (h : RCk w B A L) :
    ∃ vs : List Value, vs.length = L.length ∧ (∀ u ∈ vs, u.oneCell' = true) ∧ (∀ i, i < L.length → ∃ ad, A = some ad ∧ w.cell? (ad.add i) = vs[i]?) ∧ ∀ i, i < L.length → ∃ A' c', vs[i]? = some (.slice A' (L.getD i []).length c') ∧ RI w B A' (L.getD i []) ∧ (L.getD i []).length ≤ c' ∧ c' ≤ maxLen := by
  have hV : ∀ i, i < L.length → ∃ v : Value, ∃ ad A' c', A = some ad ∧ w.cell? (ad.add i) = some v ∧ v = .slice A' (L.getD i []).length c' ∧ RI w B A' (L.getD i []) ∧ (L.getD i []).length ≤ c' ∧ c' ≤ maxLen := by
    intro i hi
    obtain ⟨ad, A', c', e, _, hc, hr, h1, h2⟩ := h i hi
    exact ⟨_, ad, A', c', e, hc, rfl, hr, h1, h2⟩
  obtain ⟨F, hF⟩ : ∃ F : Nat → Value, ∀ i, i < L.length → ∃ ad A' c', A = some ad ∧ w.cell? (ad.add i) = some (F i) ∧ F i = .slice A' (L.getD i []).length c' ∧ RI w B A' (L.getD i []) ∧ (L.getD i []).length ≤ c' ∧ c' ≤ maxLen := by
    refine ⟨fun i => if h : i < L.length then Classical.choose (hV i h) else .slice none 0 0, fun i hi => ?_⟩
    simp only [dif_pos hi]
    exact Classical.choose_spec (hV i hi)
  have hg : ∀ i, i < L.length → ((List.range L.length).map F)[i]? = some (F i) := fun i hi => by simp [hi]
  refine ⟨(List.range L.length).map F, by simp, ?_, fun i hi => ?_, fun i hi => ?_⟩
  · intro u hu
    obtain ⟨i, hi, rfl⟩ := List.mem_map.1 hu
    obtain ⟨ad, A', c', _, _, e, _⟩ := hF i (by simpa using hi)
    rw [e]; rfl
  · obtain ⟨ad, A', c', e, hc, _⟩ := hF i hi
    exact ⟨ad, e, by rw [hc, hg i hi]⟩
  · obtain ⟨ad, A', c', e, hc, ev, hr, h1, h2⟩ := hF i hi
    exact ⟨A', c', by rw [hg i hi, ev], hr, h1, h2⟩
theorem OwnK.val {w : World} {base : Nat} {v : Value} {L : List (List Int)} (h : OwnK w base v L) (hb : base ≤ w.heap.size) : ∃ (A : Option Addr) (c : Nat), v = .slice A L.length c ∧ RCk w w.heap.size A L := by
  obtain ⟨vs, ho, hl, _, hx⟩ := h
  rcases ho.2 with ⟨rfl, h0⟩ | ⟨g, cap, cur, rfl, hg, hh, h1, h2, h3, h4⟩
  · exact ⟨none, 0, by rw [h0], fun i hi => by omega⟩
  · refine ⟨_, cap, rfl, fun i hi => ?_⟩
    obtain ⟨A', c', e, hr, q1, q2⟩ := hx i hi
    refine ⟨_, A', c', rfl, (World.ownsRow.lt ho g rfl).2, ?_, hr.mono hb, q1, q2⟩
    rw [add_loc, World.ownsRow.cellAt ho i (by omega)]
    exact e
theorem OwnK.old {w w' : World} {base : Nat} {v : Value} {L : List (List Int)} (h : OwnK w base v L) (hb : Below w.heap.size w w') (hbs : base ≤ w.heap.size) : OwnK w' base v L := by
  obtain ⟨vs, ho, hl, hone, hx⟩ := h
  refine ⟨vs, ?_, hl, hone, fun i hi => ?_⟩
  · refine World.ownsRow.kept ho (row := none) ⟨hb.os, hb.tape, hb.output, hb.size, fun k hk _ => hb.block k hk⟩ ?_
    cases hv : v.ownBlock with
    | none => exact .inl rfl
    | some k => exact .inr (by simp)
  · obtain ⟨A', c', e, hr, q⟩ := hx i hi
    exact ⟨A', c', e, hr.below (hb.mono hbs), q⟩
theorem empty_ownK (w : World) : OwnK (w.alloc (.cells #[] 23)) w.heap.size (.slice (some ⟨w.heap.size, 0, none⟩) 0 0) [] := by
  refine ⟨[], ?_, rfl, by simp, fun i hi => absurd hi (by simp)⟩
  exact World.ownsRow_lit (size := 1) (e := 23) (base := w.heap.size) w #[] 0 (Nat.le_refl _) (by simp [maxLen]) (by simp)
/-- 'append(s, t...)', of rows of clauses. -/
theorem wpKs {z w : World} {ops : Array Oper} {rest : List Oper} {o : Oper} {a : Act} {Q : Exit → Act → World → Prop} (hgd : o.guard = none) (s x : Operand)
    (ho : o.op = .call { callee := .builtin .append, args := #[s, x], argTypes := #[22, 22] })
    (v : Value) (L : List (List Int)) (hs : a.eval s = v) (hown : OwnK w z.heap.size v L) (A : Option Addr) (k : Nat) (M : List (List Int)) (hx : a.eval x = .slice A M.length k) (hr : RCk z z.heap.size A M) (hA : A = none → k = 0) (hb : Below z.heap.size z w)
    (hsz : L.length ≤ 100000) (hsm : M.length ≤ 100000)
    (h : ∀ v' w', OwnK w' z.heap.size v' (L ++ M) → Below z.heap.size z w' → wpList Try.prog ops Q rest (a.put o.dst v') w') : wpList Try.prog ops Q (o :: rest) a w := by
  obtain ⟨i0, hi0, hz0, hz1, hz2⟩ := info_parts cls_info
  have hbs := hb.size
  obtain ⟨vs, how, hl, hone, hxs⟩ := hown
  obtain ⟨us, hul, huo, huc, hux⟩ := (hr.below hb).vals
  cases A with
  | none =>
    have h0 : M = [] := by
      cases M with
      | nil => rfl
      | cons x l => obtain ⟨ad, e, _⟩ := huc 0 (by simp); cases e
    subst h0
    have hk := hA rfl
    subst hk
    refine wpList_append_own_none hgd s x 22 ho z.heap.size 23 i0 1 Try.underlying22 hi0 v L.length vs hs how hx ?_
    exact h v w (by simpa using ⟨vs, how, hl, hone, hxs⟩) hb
  | some ad =>
    refine wpList_append_own _ hgd s x 22 ho z.heap.size 23 i0 (.slice none 0 0) 1 24 Try.underlying22 hi0 hz0 hz1 hz2 rfl (by omega) v L.length vs hs how ad M.length k us hx (by simpa using hul) ?_ huo (by unfold maxLen; omega) (by omega) hbs ?_
    · intro j u hj
      have hjl : j < M.length := by
        have := (List.getElem?_eq_some_iff.1 hj).1
        omega
      obtain ⟨ad', e, hc⟩ := huc j hjl
      cases e
      rw [hc, hj]
    · intro v' w' hown' hg _
      have hb' := hb.grown hg hbs (fun k hk => ((World.ownsRow.lt how) k hk).1)
      refine h v' w' ⟨vs ++ us, by simpa using hown', by simp [hl, hul], ?_, ?_⟩ hb'
      · intro u hu
        rcases List.mem_append.1 hu with h1 | h1
        · exact hone u h1
        · exact huo u h1
      · intro i hi
        by_cases hil : i < L.length
        · obtain ⟨A', c', e, hri, q⟩ := hxs i hil
          have e1 : (L ++ M).getD i [] = L.getD i [] := by simp [List.getD_eq_getElem?_getD, List.getElem?_append_left hil]
          rw [e1]
          refine ⟨A', c', by rw [List.getElem?_append_left (by omega)]; exact e, ?_, q⟩
          exact (hri.back hb).below hb'
        · have hi' : i < L.length + M.length := by simpa using hi
          obtain ⟨A', c', e, hri, q⟩ := hux (i - L.length) (by omega)
          have e1 : (L ++ M).getD i [] = M.getD (i - L.length) [] := by simp [List.getD_eq_getElem?_getD, List.getElem?_append_right (show L.length ≤ i by omega)]
          rw [e1]
          refine ⟨A', c', by rw [List.getElem?_append_right (by omega), hl]; exact e, ?_, q⟩
          exact (hri.back hb).below hb'
theorem Forced.more {L L' : List (List Int)} {A : List Int} (hL : ∀ c ∈ L, c ∈ L') {x : Int} (h : Forced L A x) : Forced L' A x := by
  induction h with
  | given x hx => exact .given x hx
  | unit c x hc hxc _ ih => exact .unit c x (hL c hc) hxc ih
theorem Clash.more {L L' : List (List Int)} {A : List Int} (hL : ∀ c ∈ L, c ∈ L') (h : Clash L A) : Clash L' A := by
  rcases h with ⟨x, h1, h2⟩ | ⟨c, hc, h⟩
  · exact .inl ⟨x, h1.more hL, h2.more hL⟩
  · exact .inr ⟨c, hL c hc, fun y hy => (h y hy).more hL⟩
theorem again_forced {L : List (List Int)} {A : List Int} (h : clashB L A = false) {x : Int} (hx : Forced L (closeL L A) x) : Forced L A x := by
  induction hx with
  | given x hx => exact (closeL_mem h x).1 hx
  | unit c x hc hxc _ ih => exact .unit c x hc hxc ih
theorem again_clash {L : List (List Int)} {A : List Int} (h : clashB L A = false) : clashB L (closeL L A) = false := by
  rw [Bool.eq_false_iff]
  intro hc
  have : Clash L A := by
    rcases (clashB_iff _ _).1 hc with ⟨x, h1, h2⟩ | ⟨c, hcL, hy⟩
    · exact .inl ⟨x, again_forced h h1, again_forced h h2⟩
    · exact .inr ⟨c, hcL, fun y hyc => again_forced h (hy y hyc)⟩
  rw [(clashB_iff _ _).2 this] at h; cases h
theorem again_close {L : List (List Int)} {A : List Int} (h : clashB L A = false) : closeL L (closeL L A) = closeL L A :=
  sorted_uniq _ _ (closeL_lt _ _) (closeL_lt _ _) (fun z => by
    rw [closeL_mem (again_clash h), closeL_mem h]
    exact ⟨again_forced h, fun hz => .given z ((closeL_mem h z).2 hz)⟩)
theorem more_clash {L : List (List Int)} {A m : List Int} (h : clashB L A = true) : clashB (L ++ [m]) A = true :=
  (clashB_iff _ _).2 (((clashB_iff _ _).1 h).more (fun c hc => by simp [hc]))
theorem more_close {L : List (List Int)} {A m : List Int} (h : clashB L A = false) (h2 : clashB (L ++ [m]) A = false) {x : Int} (hx : x ∈ closeL L A) : x ∈ closeL (L ++ [m]) A :=
  (closeL_mem h2 x).2 (((closeL_mem h x).1 hx).more (fun c hc => by simp [hc]))
end Go.Proofs.Ytlebagdildpkmaa
