/-
  UnitSound, walked.
  UnitRefutes, walked.
  UnitMore, walked.
  Proofs, checked: plain mathematics.
  Which clause of a row is the first that is the same.
-/
import Derived.Test.YtahedhpffjgimaaDoorProg
import Derived.WalkKit
import Derived.WalkSpells
import Derived.WalkLawsBesides
import Derived.Lib.Hide
import Derived.BigQuiet
import Derived.Deep.QuietTactic
import Derived.Deep.RegionWith
import Derived.Deep.RegionHeld3
import Derived.Test.YtahedhpffjgimaaDoorQ14
import Derived.Laws.AppendOwnNone
import Derived.Deep.AppendSrc
import Derived.Test.YtahedhpffjgimaaDoorQ11
set_option linter.unusedVariables false
/- UnitSound, walked. -/
namespace Go.Proofs.YtahedhpffjgimaaDoor
open Go.RowKit
theorem litT_neg {m : List Bool} {y : Int} (h : litT m (-y) = true) : litT m y = false := by
  unfold litT at h ⊢
  by_cases h0 : 0 < y
  · rw [if_neg (by omega)] at h
    simp only [Bool.and_eq_true, decide_eq_true_eq, Bool.not_eq_true'] at h
    rw [if_pos h0, show (y - 1).toNat = (-(-y) - 1).toNat by omega, h.2]; simp
  · by_cases h1 : y < 0
    · rw [if_pos (by omega)] at h
      simp only [Bool.and_eq_true, decide_eq_true_eq] at h
      rw [if_neg h0]
      rw [show (-y - 1).toNat = (-y - 1).toNat from rfl, h.2]; simp
    · rw [if_neg h0, decide_eq_false h1]; simp
theorem litT_or {m : List Bool} {x : Int} (x0 : x ≠ 0) (h1 : -(m.length : Int) ≤ x) (h2 : x ≤ m.length) (h : litT m x = false) : litT m (-x) = true := by
  unfold litT at h ⊢
  by_cases h0 : 0 < x
  · rw [if_pos h0, decide_eq_true h2, Bool.true_and] at h
    rw [if_neg (by omega), decide_eq_true (by omega), decide_eq_true (by omega), show (-(-x) - 1).toNat = (x - 1).toNat by omega, h]; rfl
  · rw [if_neg h0, decide_eq_true (by omega), decide_eq_true h1, Bool.true_and, Bool.true_and, Bool.not_eq_false'] at h
    rw [if_pos (by omega), decide_eq_true (by omega), h]; rfl
theorem sound_lit {L : List (List Int)} {A : List Int} {m : List Bool} (hL : hoT L m = true) (hA : ∀ a ∈ A, litT m a = true) {x : Int} (h : Forced L A x) : litT m x = true := by
  induction h with
  | given x hx => exact hA x hx
  | unit c x hc hxc _ ih =>
    have h1 := List.all_eq_true.1 hL c hc
    obtain ⟨y, hy, hyt⟩ := List.any_eq_true.1 h1
    by_cases e : y = x
    · exact e ▸ hyt
    · have := litT_neg (ih y hy e); rw [hyt] at this; cases this
theorem sound_clash {L : List (List Int)} {A : List Int} {m : List Bool} (hL : hoT L m = true) (hA : ∀ a ∈ A, litT m a = true) : clashB L A = false := by
  rw [Bool.eq_false_iff]
  intro hc
  rcases (clashB_iff L A).1 hc with ⟨x, h1, h2⟩ | ⟨c, hcL, hy⟩
  · have a := sound_lit hL hA h1
    have b := litT_neg (sound_lit hL hA h2)
    rw [a] at b; cases b
  · have h1 := List.all_eq_true.1 hL c hcL
    obtain ⟨y, hyc, hyt⟩ := List.any_eq_true.1 h1
    have b := litT_neg (sound_lit hL hA (hy y hyc))
    rw [hyt] at b; cases b
theorem sound_refutes {L : List (List Int)} {c : List Int} {m : List Bool} (hL : hoT L m = true) (hx : ∀ x ∈ c, x ≠ 0 ∧ -(m.length : Int) ≤ x ∧ x ≤ m.length) (hr : clashB L (negC c) = true) : clT c m = true := by
  cases hc : clT c m with
  | true => rfl
  | false =>
    have hf := List.any_eq_false.1 hc
    have := sound_clash (A := negC c) hL (by
      intro a ha
      obtain ⟨x, hxc, rfl⟩ := List.mem_map.1 ha
      obtain ⟨x0, x1, x2⟩ := hx x hxc
      exact litT_or x0 x1 x2 (by simpa using hf x hxc))
    rw [hr] at this; cases this
theorem clT_one (m : List Bool) (x : Int) : clT [x] m = litT m x := by simp [clT]
end Go.Proofs.YtahedhpffjgimaaDoor
/- UnitRefutes, walked. -/
namespace Go.Proofs.YtahedhpffjgimaaDoor
open Go.RowKit
theorem Forced.mono {L : List (List Int)} {A A' : List Int} (hA : ∀ x ∈ A, x ∈ A') {x : Int} (h : Forced L A x) : Forced L A' x := by
  induction h with
  | given x hx => exact .given x (hA x hx)
  | unit c x hc hxc _ ih => exact .unit c x hc hxc ih
theorem Clash.mono {L : List (List Int)} {A A' : List Int} (hA : ∀ x ∈ A, x ∈ A') (h : Clash L A) : Clash L A' := by
  rcases h with ⟨x, h1, h2⟩ | ⟨c, hc, h⟩
  · exact .inl ⟨x, h1.mono hA, h2.mono hA⟩
  · exact .inr ⟨c, hc, fun y hy => (h y hy).mono hA⟩
theorem ref_self {L : List (List Int)} {c : List Int} (hc : c ∈ L) : clashB L (negC c) = true :=
  (clashB_iff _ _).2 (.inr ⟨c, hc, fun y hy => .given _ (List.mem_map.2 ⟨y, hy, rfl⟩)⟩)
theorem ref_more {L : List (List Int)} {c m : List Int} (h : clashB L (negC c) = true) : clashB L (negC (c ++ m)) = true :=
  (clashB_iff _ _).2 (((clashB_iff _ _).1 h).mono (fun x hx => by
    obtain ⟨y, hy, rfl⟩ := List.mem_map.1 hx
    exact List.mem_map.2 ⟨y, by simp [hy], rfl⟩))
theorem forced_none {A : List Int} {x : Int} (h : Forced [] A x) : x ∈ A := by
  cases h with
  | given _ h => exact h
  | unit c _ hc => simp at hc
theorem ref_none (c : List Int) : clashB [] (negC c) = c.any (fun x => c.contains (-x)) := by
  rw [Bool.eq_iff_iff, clashB_iff, List.any_eq_true]
  constructor
  · rintro (⟨x, h1, h2⟩ | ⟨d, hd, _⟩)
    · obtain ⟨y, hy, rfl⟩ := List.mem_map.1 (forced_none h1)
      obtain ⟨z, hz, e⟩ := List.mem_map.1 (forced_none h2)
      refine ⟨y, hy, ?_⟩
      have : z = -y := by omega
      subst this
      simpa using hz
    · simp at hd
  · rintro ⟨x, hx, h⟩
    have h' : -x ∈ c := by simpa using h
    refine .inl ⟨-x, .given _ (List.mem_map.2 ⟨x, hx, rfl⟩), .given _ (List.mem_map.2 ⟨-x, h', rfl⟩)⟩
/-- 'append(s, t...)', of rows of numbers. -/
theorem wpIs {z w : World} {ops : Array Oper} {rest : List Oper} {o : Oper} {a : Act} {Q : Exit → Act → World → Prop} (hgd : o.guard = none) (s x : Operand)
    (ho : o.op = .call { callee := .builtin .append, args := #[s, x], argTypes := #[26, 26] })
    (v : Value) (l : List Int) (hs : a.eval s = v) (hown : OwnI w z.heap.size v l) (A : Option Addr) (k : Nat) (m : List Int) (hx : a.eval x = .slice A m.length k) (hr : RI w w.heap.size A m) (hA : A = none → k = 0) (hb : Below z.heap.size z w)
    (hsz : l.length ≤ 100000) (hsm : m.length ≤ 100000)
    (h : ∀ v' w', OwnI w' z.heap.size v' (l ++ m) → Below z.heap.size z w' → wpList Tryd.prog ops Q rest (a.put o.dst v') w') : wpList Tryd.prog ops Q (o :: rest) a w := by
  obtain ⟨i0, hi0, hz0, hz1, hz2⟩ := info_parts int_info
  have hbs := hb.size
  cases A with
  | none =>
    have h0 : m = [] := by
      cases m with
      | nil => rfl
      | cons x l => obtain ⟨ad, e, _⟩ := hr 0 (by simp); cases e
    subst h0
    have hk := hA rfl
    subst hk
    refine wpList_append_own_none hgd s x 26 ho z.heap.size 3 i0 1 Tryd.underlying26 hi0 v l.length (l.map (Value.int .i64)) hs hown hx ?_
    exact h v w (by simpa using hown) hb
  | some ad =>
    refine wpList_append_own _ hgd s x 26 ho z.heap.size 3 i0 (.int .i64 0) 1 8 Tryd.underlying26 hi0 hz0 hz1 hz2 rfl (by omega) v l.length (l.map (Value.int .i64)) hs hown ad m.length k (m.map (Value.int .i64)) hx (by simp) ?_ ?_ (by unfold maxLen; omega) (by omega) hbs ?_
    · intro j u hj
      have hjl : j < m.length := by
        have := (List.getElem?_eq_some_iff.1 hj).1
        simpa using this
      obtain ⟨ad', e, _, hc⟩ := hr j hjl
      cases e
      rw [hc]
      simp [hjl] at hj
      rw [← hj]
      simp [List.getD_eq_getElem?_getD, hjl]
    · intro u hu; obtain ⟨x, _, rfl⟩ := List.mem_map.1 hu; rfl
    · intro v' w' hown' hg _
      refine h v' w' ?_ (hb.grown hg hbs (fun k hk => ((World.ownsRow.lt hown) k hk).1))
      unfold OwnI
      simpa using hown'
theorem empty_own (w : World) : OwnI (w.alloc (.cells #[] 3)) w.heap.size (.slice (some ⟨w.heap.size, 0, none⟩) 0 0) [] := lit_own w w.heap.size (Nat.le_refl _) [] (by simp)
end Go.Proofs.YtahedhpffjgimaaDoor
/- UnitMore, walked. -/
namespace Go.Proofs.YtahedhpffjgimaaDoor
open Go.RowKit
theorem cls_info : (Tryd.prog.info? 26).map (fun i => (i.zero, i.size, i.bytes)) = some (some (.slice none 0 0), 1, 24) := by kernel_rfl
/-- A row of clauses that a call made for itself; the clauses lie in older blocks. -/
def OwnK (w : World) (base : Nat) (v : Value) (L : List (List Int)) : Prop :=
  ∃ vs : List Value, w.ownsRow base 26 1 v L.length vs ∧ vs.length = L.length ∧ (∀ u ∈ vs, u.oneCell' = true) ∧ ∀ i, i < L.length → ∃ A' c', vs[i]? = some (.slice A' (L.getD i []).length c') ∧ RI w base A' (L.getD i []) ∧ (L.getD i []).length ≤ c' ∧ c' ≤ maxLen
theorem RCk.vals {w : World} {B : Nat} {A : Option Addr} {L : List (List Int)} (h : RCk w B A L) :
    ∃ vs : List Value, vs.length = L.length ∧ (∀ u ∈ vs, u.oneCell' = true) ∧ (∀ i, i < L.length → ∃ ad, A = some ad ∧ w.cell? (ad.add i) = vs[i]?) ∧ ∀ i, i < L.length → ∃ A' c', vs[i]? = some (.slice A' (L.getD i []).length c') ∧ RI w B A' (L.getD i []) ∧ (L.getD i []).length ≤ c' ∧ c' ≤ maxLen := by
  have hV : ∀ i, i < L.length → ∃ v : Value, ∃ ad A' c', A = some ad ∧ w.cell? (ad.add i) = some v ∧ v = .slice A' (L.getD i []).length c' ∧ RI w B A' (L.getD i []) ∧ (L.getD i []).length ≤ c' ∧ c' ≤ maxLen := by
    intro i hi
    obtain ⟨ad, A', c', e, _, hc, hr, h1, h2⟩ := h i hi
    exact ⟨_, ad, A', c', e, hc, rfl, hr, h1, h2⟩
  obtain ⟨F, hF⟩ : ∃ F : Nat → Value, ∀ i, i < L.length → ∃ ad A' c', A = some ad ∧ w.cell? (ad.add i) = some (F i) ∧ F i = .slice A' (L.getD i []).length c' ∧ RI w B A' (L.getD i []) ∧ (L.getD i []).length ≤ c' ∧ c' ≤ maxLen := by
    refine ⟨fun i => if h : i < L.length then Classical.choose (hV i h) else .slice none 0 0, fun i hi => ?_⟩
    simp only [dif_pos hi]
    exact Classical.choose_spec (hV i hi)
  have hg : ∀ i, i < L.length → ((List.range L.length).map F)[i]? = some (F i) := fun i hi => by simp [hi]
  refine ⟨(List.range L.length).map F, by simp, ?_, fun i hi => ?_, fun i hi => ?_⟩
  · intro u hu
    obtain ⟨i, hi, rfl⟩ := List.mem_map.1 hu
    obtain ⟨ad, A', c', _, _, e, _⟩ := hF i (by simpa using hi)
    rw [e]; rfl
  · obtain ⟨ad, A', c', e, hc, _⟩ := hF i hi
    exact ⟨ad, e, by rw [hc, hg i hi]⟩
  · obtain ⟨ad, A', c', e, hc, ev, hr, h1, h2⟩ := hF i hi
    exact ⟨A', c', by rw [hg i hi, ev], hr, h1, h2⟩
theorem OwnK.val {w : World} {base : Nat} {v : Value} {L : List (List Int)} (h : OwnK w base v L) (hb : base ≤ w.heap.size) : ∃ (A : Option Addr) (c : Nat), v = .slice A L.length c ∧ RCk w w.heap.size A L := by
  obtain ⟨vs, ho, hl, _, hx⟩ := h
  rcases ho.2 with ⟨rfl, h0⟩ | ⟨g, cap, cur, rfl, hg, hh, h1, h2, h3, h4⟩
  · exact ⟨none, 0, by rw [h0], fun i hi => by omega⟩
  · refine ⟨_, cap, rfl, fun i hi => ?_⟩
    obtain ⟨A', c', e, hr, q1, q2⟩ := hx i hi
    refine ⟨_, A', c', rfl, (World.ownsRow.lt ho g rfl).2, ?_, hr.mono hb, q1, q2⟩
    rw [add_loc, World.ownsRow.cellAt ho i (by omega)]
    exact e
theorem OwnK.old {w w' : World} {base : Nat} {v : Value} {L : List (List Int)} (h : OwnK w base v L) (hb : Below w.heap.size w w') (hbs : base ≤ w.heap.size) : OwnK w' base v L := by
  obtain ⟨vs, ho, hl, hone, hx⟩ := h
  refine ⟨vs, ?_, hl, hone, fun i hi => ?_⟩
  · refine World.ownsRow.kept ho (row := none) ⟨hb.os, hb.tape, hb.output, hb.size, fun k hk _ => hb.block k hk⟩ ?_
    cases hv : v.ownBlock with
    | none => exact .inl rfl
    | some k => exact .inr (by simp)
  · obtain ⟨A', c', e, hr, q⟩ := hx i hi
    exact ⟨A', c', e, hr.below (hb.mono hbs), q⟩
theorem empty_ownK (w : World) : OwnK (w.alloc (.cells #[] 26)) w.heap.size (.slice (some ⟨w.heap.size, 0, none⟩) 0 0) [] := by
  refine ⟨[], ?_, rfl, by simp, fun i hi => absurd hi (by simp)⟩
  exact World.ownsRow_lit (size := 1) (e := 26) (base := w.heap.size) w #[] 0 (Nat.le_refl _) (by simp [maxLen]) (by simp)
/-- 'append(s, t...)', of rows of clauses. -/
theorem wpKs {z w : World} {ops : Array Oper} {rest : List Oper} {o : Oper} {a : Act} {Q : Exit → Act → World → Prop} (hgd : o.guard = none) (s x : Operand)
    (ho : o.op = .call { callee := .builtin .append, args := #[s, x], argTypes := #[22, 22] })
    (v : Value) (L : List (List Int)) (hs : a.eval s = v) (hown : OwnK w z.heap.size v L) (A : Option Addr) (k : Nat) (M : List (List Int)) (hx : a.eval x = .slice A M.length k) (hr : RCk z z.heap.size A M) (hA : A = none → k = 0) (hb : Below z.heap.size z w)
    (hsz : L.length ≤ 100000) (hsm : M.length ≤ 100000)
    (h : ∀ v' w', OwnK w' z.heap.size v' (L ++ M) → Below z.heap.size z w' → wpList Tryd.prog ops Q rest (a.put o.dst v') w') : wpList Tryd.prog ops Q (o :: rest) a w := by
  obtain ⟨i0, hi0, hz0, hz1, hz2⟩ := info_parts cls_info
  have hbs := hb.size
  obtain ⟨vs, how, hl, hone, hxs⟩ := hown
  obtain ⟨us, hul, huo, huc, hux⟩ := (hr.below hb).vals
  cases A with
  | none =>
    have h0 : M = [] := by
      cases M with
      | nil => rfl
      | cons x l => obtain ⟨ad, e, _⟩ := huc 0 (by simp); cases e
    subst h0
    have hk := hA rfl
    subst hk
    refine wpList_append_own_none hgd s x 22 ho z.heap.size 26 i0 1 Tryd.underlying22 hi0 v L.length vs hs how hx ?_
    exact h v w (by simpa using ⟨vs, how, hl, hone, hxs⟩) hb
  | some ad =>
    refine wpList_append_own _ hgd s x 22 ho z.heap.size 26 i0 (.slice none 0 0) 1 24 Tryd.underlying22 hi0 hz0 hz1 hz2 rfl (by omega) v L.length vs hs how ad M.length k us hx (by simpa using hul) ?_ huo (by unfold maxLen; omega) (by omega) hbs ?_
    · intro j u hj
      have hjl : j < M.length := by
        have := (List.getElem?_eq_some_iff.1 hj).1
        omega
      obtain ⟨ad', e, hc⟩ := huc j hjl
      cases e
      rw [hc, hj]
    · intro v' w' hown' hg _
      have hb' := hb.grown hg hbs (fun k hk => ((World.ownsRow.lt how) k hk).1)
      refine h v' w' ⟨vs ++ us, by simpa using hown', by simp [hl, hul], ?_, ?_⟩ hb'
      · intro u hu
        rcases List.mem_append.1 hu with h1 | h1
        · exact hone u h1
        · exact huo u h1
      · intro i hi
        by_cases hil : i < L.length
        · obtain ⟨A', c', e, hri, q⟩ := hxs i hil
          have e1 : (L ++ M).getD i [] = L.getD i [] := by simp [List.getD_eq_getElem?_getD, List.getElem?_append_left hil]
          rw [e1]
          refine ⟨A', c', by rw [List.getElem?_append_left (by omega)]; exact e, ?_, q⟩
          exact (hri.back hb).below hb'
        · have hi' : i < L.length + M.length := by simpa using hi
          obtain ⟨A', c', e, hri, q⟩ := hux (i - L.length) (by omega)
          have e1 : (L ++ M).getD i [] = M.getD (i - L.length) [] := by simp [List.getD_eq_getElem?_getD, List.getElem?_append_right (show L.length ≤ i by omega)]
          rw [e1]
          refine ⟨A', c', by rw [List.getElem?_append_right (by omega), hl]; exact e, ?_, q⟩
          exact (hri.back hb).below hb'
theorem Forced.more {L L' : List (List Int)} {A : List Int} (hL : ∀ c ∈ L, c ∈ L') {x : Int} (h : Forced L A x) : Forced L' A x := by
  induction h with
  | given x hx => exact .given x hx
  | unit c x hc hxc _ ih => exact .unit c x (hL c hc) hxc ih
theorem Clash.more {L L' : List (List Int)} {A : List Int} (hL : ∀ c ∈ L, c ∈ L') (h : Clash L A) : Clash L' A := by
  rcases h with ⟨x, h1, h2⟩ | ⟨c, hc, h⟩
  · exact .inl ⟨x, h1.more hL, h2.more hL⟩
  · exact .inr ⟨c, hL c hc, fun y hy => (h y hy).more hL⟩
theorem again_forced {L : List (List Int)} {A : List Int} (h : clashB L A = false) {x : Int} (hx : Forced L (closeL L A) x) : Forced L A x := by
  induction hx with
  | given x hx => exact (closeL_mem h x).1 hx
  | unit c x hc hxc _ ih => exact .unit c x hc hxc ih
theorem again_clash {L : List (List Int)} {A : List Int} (h : clashB L A = false) : clashB L (closeL L A) = false := by
  rw [Bool.eq_false_iff]
  intro hc
  have : Clash L A := by
    rcases (clashB_iff _ _).1 hc with ⟨x, h1, h2⟩ | ⟨c, hcL, hy⟩
    · exact .inl ⟨x, again_forced h h1, again_forced h h2⟩
    · exact .inr ⟨c, hcL, fun y hyc => again_forced h (hy y hyc)⟩
  rw [(clashB_iff _ _).2 this] at h; cases h
theorem again_close {L : List (List Int)} {A : List Int} (h : clashB L A = false) : closeL L (closeL L A) = closeL L A :=
  sorted_uniq _ _ (closeL_lt _ _) (closeL_lt _ _) (fun z => by
    rw [closeL_mem (again_clash h), closeL_mem h]
    exact ⟨again_forced h, fun hz => .given z ((closeL_mem h z).2 hz)⟩)
theorem more_clash {L : List (List Int)} {A m : List Int} (h : clashB L A = true) : clashB (L ++ [m]) A = true :=
  (clashB_iff _ _).2 (((clashB_iff _ _).1 h).more (fun c hc => by simp [hc]))
theorem more_close {L : List (List Int)} {A m : List Int} (h : clashB L A = false) (h2 : clashB (L ++ [m]) A = false) {x : Int} (hx : x ∈ closeL L A) : x ∈ closeL (L ++ [m]) A :=
  (closeL_mem h2 x).2 (((closeL_mem h x).1 hx).more (fun c hc => by simp [hc]))
end Go.Proofs.YtahedhpffjgimaaDoor
/- Proofs, checked: plain mathematics. -/
namespace Go.Proofs.YtahedhpffjgimaaDoor
open Go.RowKit
/-- The clauses as sets. -/
def setsOf (L : List (List Int)) : List (List Int) := L.map sortF
theorem setsOf_mem {L : List (List Int)} {s : List Int} : s ∈ setsOf L ↔ ∃ c ∈ L, sortF c = s := by simp [setsOf]
theorem sortF_same {c d : List Int} (h : sortF c = sortF d) (x : Int) : x ∈ c ↔ x ∈ d := by rw [← sortF_mem c, h, sortF_mem]
theorem sortF_congr {c d : List Int} (h : ∀ x, x ∈ c ↔ x ∈ d) : sortF c = sortF d := sorted_uniq _ _ (sortF_lt _) (sortF_lt _) (fun x => by rw [sortF_mem, sortF_mem]; exact h x)
theorem sortF_sortF (c : List Int) : sortF (sortF c) = sortF c := sortF_congr (sortF_mem c)
theorem sortF_eq_nil (c : List Int) : sortF c = [] ↔ c = [] := by
  constructor
  · intro h
    cases c with
    | nil => rfl
    | cons x t => have := (sortF_mem (x :: t) x).2 (by simp); rw [h] at this; simp at this
  · rintro rfl; exact sortF_nil
theorem forced_sub {L L' : List (List Int)} {A A' : List Int} (hA : ∀ x ∈ A, x ∈ A') (hL : ∀ c ∈ L, ∃ d ∈ L', ∀ x, x ∈ d ↔ x ∈ c) {x : Int} (h : Forced L A x) : Forced L' A' x := by
  induction h with
  | given x hx => exact .given x (hA x hx)
  | unit c x hc hx _ ih =>
    obtain ⟨d, hd, hm⟩ := hL c hc
    exact .unit d x hd ((hm x).2 hx) (fun y hy hne => ih y ((hm y).1 hy) hne)
theorem clash_sub {L L' : List (List Int)} {A A' : List Int} (hA : ∀ x ∈ A, x ∈ A') (hL : ∀ c ∈ L, ∃ d ∈ L', ∀ x, x ∈ d ↔ x ∈ c) (h : Clash L A) : Clash L' A' := by
  rcases h with ⟨x, h1, h2⟩ | ⟨c, hc, hy⟩
  · exact .inl ⟨x, forced_sub hA hL h1, forced_sub hA hL h2⟩
  · obtain ⟨d, hd, hm⟩ := hL c hc
    exact .inr ⟨d, hd, fun y h' => forced_sub hA hL (hy y ((hm y).1 h'))⟩
theorem clashB_sub {L L' : List (List Int)} {A A' : List Int} (hA : ∀ x ∈ A, x ∈ A') (hL : ∀ c ∈ L, ∃ d ∈ L', ∀ x, x ∈ d ↔ x ∈ c) (h : clashB L A = true) : clashB L' A' = true :=
  (clashB_iff _ _).2 (clash_sub hA hL ((clashB_iff _ _).1 h))
theorem negC_sort (c : List Int) (x : Int) : x ∈ negC (sortF c) ↔ x ∈ negC c := by simp [negC, sortF_mem]
theorem clashB_same {L L' : List (List Int)} {A A' : List Int} (hA : ∀ x, x ∈ A ↔ x ∈ A') (h1 : ∀ c ∈ L, ∃ d ∈ L', ∀ x, x ∈ d ↔ x ∈ c) (h2 : ∀ c ∈ L', ∃ d ∈ L, ∀ x, x ∈ d ↔ x ∈ c) : clashB L A = clashB L' A' := by
  rw [Bool.eq_iff_iff]
  exact ⟨clashB_sub (fun x => (hA x).1) h1, clashB_sub (fun x => (hA x).2) h2⟩
/-- Sets refute as much. -/
theorem clashB_sets (L : List (List Int)) (c : List Int) : clashB (setsOf L) (negC (sortF c)) = clashB L (negC c) := by
  refine clashB_same (negC_sort c) ?_ ?_
  · intro s hs
    obtain ⟨d, hd, rfl⟩ := setsOf_mem.1 hs
    exact ⟨d, hd, fun x => (sortF_mem d x).symm⟩
  · intro d hd
    exact ⟨sortF d, setsOf_mem.2 ⟨d, hd, rfl⟩, sortF_mem d⟩
theorem clashB_perm {S S' : List (List Int)} (h : S.Perm S') (A : List Int) : clashB S A = clashB S' A :=
  clashB_same (fun _ => Iff.rfl) (fun c hc => ⟨c, h.mem_iff.1 hc, fun _ => Iff.rfl⟩) (fun c hc => ⟨c, h.mem_iff.2 hc, fun _ => Iff.rfl⟩)
/-- What is told of a proof: at which step it ends, and how. -/
noncomputable def checkQ : List (List Int) → Nat → List Stp → Nat × Int
  | _, k, [] => (k, 6)
  | S, k, (d, c) :: t =>
    if d then (if S.contains (sortF c) then checkQ (S.erase (sortF c)) (k + 1) t else (k, 4))
    else if clashB S (negC (sortF c)) then (if c = [] then (k, 0) else checkQ (S ++ [sortF c]) (k + 1) t) else (k, 6)
theorem checkQ_nil (S : List (List Int)) (k : Nat) : checkQ S k [] = (k, 6) := rfl
theorem checkQ_del {S : List (List Int)} {k : Nat} {c : List Int} {t : List Stp} (h : S.contains (sortF c) = true) : checkQ S k ((true, c) :: t) = checkQ (S.erase (sortF c)) (k + 1) t := by simp only [checkQ, if_true, h]
theorem checkQ_none {S : List (List Int)} {k : Nat} {c : List Int} {t : List Stp} (h : S.contains (sortF c) = false) : checkQ S k ((true, c) :: t) = (k, 4) := by simp only [checkQ, if_true, h]; rfl
theorem checkQ_bad {S : List (List Int)} {k : Nat} {c : List Int} {t : List Stp} (h : clashB S (negC (sortF c)) = false) : checkQ S k ((false, c) :: t) = (k, 6) := by simp only [checkQ, h]; rfl
theorem checkQ_end {S : List (List Int)} {k : Nat} {t : List Stp} (h : clashB S (negC (sortF [])) = true) : checkQ S k ((false, []) :: t) = (k, 0) := by simp only [checkQ, h]; rfl
theorem checkQ_add {S : List (List Int)} {k : Nat} {c : List Int} {t : List Stp} (h : clashB S (negC (sortF c)) = true) (hc : c ≠ []) : checkQ S k ((false, c) :: t) = checkQ (S ++ [sortF c]) (k + 1) t := by simp only [checkQ, h, if_neg hc]; rfl
/-- The ways of a step. -/
theorem checkQ_ind {S : List (List Int)} {k : Nat} {s : Stp} {t : List Stp} {motive : Nat × Int → Prop}
    (h1 : s.1 = true → S.contains (sortF s.2) = true → motive (checkQ (S.erase (sortF s.2)) (k + 1) t))
    (h2 : s.1 = true → S.contains (sortF s.2) = false → motive (k, 4))
    (h3 : s.1 = false → clashB S (negC (sortF s.2)) = false → motive (k, 6))
    (h4 : s.1 = false → s.2 = [] → clashB S (negC (sortF [])) = true → motive (k, 0))
    (h5 : s.1 = false → s.2 ≠ [] → clashB S (negC (sortF s.2)) = true → motive (checkQ (S ++ [sortF s.2]) (k + 1) t)) : motive (checkQ S k (s :: t)) := by
  obtain ⟨d, c⟩ := s
  cases d
  · cases h : clashB S (negC (sortF c))
    · rw [checkQ_bad h]; exact h3 rfl h
    · by_cases hc : c = []
      · subst hc; rw [checkQ_end h]; exact h4 rfl rfl h
      · rw [checkQ_add h hc]; exact h5 rfl hc h
  · cases h : S.contains (sortF c)
    · rw [checkQ_none h]; exact h2 rfl h
    · rw [checkQ_del h]; exact h1 rfl h
theorem checkQ_bd : ∀ (P : List Stp) (S : List (List Int)) (k : Nat), k ≤ (checkQ S k P).1 ∧ (checkQ S k P).1 ≤ k + P.length ∧ ((checkQ S k P).2 = 0 ∨ (checkQ S k P).2 = 4 ∨ (checkQ S k P).2 = 6)
  | [], S, k => by simp [checkQ_nil]
  | s :: t, S, k => by
    refine checkQ_ind (motive := fun r => k ≤ r.1 ∧ r.1 ≤ k + (s :: t).length ∧ (r.2 = 0 ∨ r.2 = 4 ∨ r.2 = 6)) ?_ ?_ ?_ ?_ ?_
    · intro _ _
      have := checkQ_bd t (S.erase (sortF s.2)) (k + 1)
      simp only [List.length_cons]; omega
    · intro _ _; simp
    · intro _ _; simp
    · intro _ _ _; simp
    · intro _ _ _
      have := checkQ_bd t (S ++ [sortF s.2]) (k + 1)
      simp only [List.length_cons]; omega
/-- One that is checked ends with the empty clause; what is behind that counts for nothing. -/
theorem checkQ_ok : ∀ (P : List Stp) (S : List (List Int)) (k : Nat), (checkQ S k P).2 = 0 → ∃ i, i < P.length ∧ (checkQ S k P).1 = k + i ∧ P.getD i (true, []) = (false, []) ∧ checkQ S k (P.take (i + 1)) = (k + i, 0)
  | [], S, k, h => by simp [checkQ_nil] at h
  | (d, c) :: t, S, k, h => by
    cases d
    · cases hr : clashB S (negC (sortF c))
      · rw [checkQ_bad hr] at h; simp at h
      · by_cases hc : c = []
        · subst hc
          exact ⟨0, by simp, by rw [checkQ_end hr]; rfl, rfl, by simp [checkQ_end hr]⟩
        · rw [checkQ_add hr hc] at h ⊢
          obtain ⟨i, h1, h2, h3, h4⟩ := checkQ_ok t _ _ h
          refine ⟨i + 1, by simp; omega, by rw [h2]; omega, by simpa using h3, ?_⟩
          rw [List.take_succ_cons, checkQ_add hr hc, h4, show k + 1 + i = k + (i + 1) by omega]
    · cases hr : S.contains (sortF c)
      · rw [checkQ_none hr] at h; simp at h
      · rw [checkQ_del hr] at h ⊢
        obtain ⟨i, h1, h2, h3, h4⟩ := checkQ_ok t _ _ h
        refine ⟨i + 1, by simp; omega, by rw [h2]; omega, by simpa using h3, ?_⟩
        rw [List.take_succ_cons, checkQ_del hr, h4, show k + 1 + i = k + (i + 1) by omega]
theorem clT_same {c d : List Int} (h : ∀ x, x ∈ c ↔ x ∈ d) (m : List Bool) : clT c m = clT d m := by
  unfold clT
  rw [Bool.eq_iff_iff, List.any_eq_true, List.any_eq_true]
  exact ⟨fun ⟨x, h1, h2⟩ => ⟨x, (h x).1 h1, h2⟩, fun ⟨x, h1, h2⟩ => ⟨x, (h x).2 h1, h2⟩⟩
theorem hoT_sets (L : List (List Int)) (m : List Bool) : hoT (setsOf L) m = hoT L m := by
  unfold hoT setsOf
  rw [List.all_map]
  congr 1
  funext c
  exact clT_same (sortF_mem c) m
/-- SOUND. -/
theorem checkQ_sound {m : List Bool} : ∀ (P : List Stp) (S : List (List Int)) (k : Nat), hoT S m = true → (∀ s ∈ P, ∀ x ∈ s.2, x ≠ 0 ∧ -(m.length : Int) ≤ x ∧ x ≤ m.length) →
    (checkQ S k P).2 ≠ 0 ∧ ∀ i, i < P.length → k + i < (checkQ S k P).1 → (P.getD i (true, [])).1 = false → clT (P.getD i (true, [])).2 m = true
  | [], S, k, hS, hP => by simp [checkQ_nil]
  | (d, c) :: t, S, k, hS, hP => by
    have hP' : ∀ s ∈ t, ∀ x ∈ s.2, x ≠ 0 ∧ -(m.length : Int) ≤ x ∧ x ≤ m.length := fun s hs => hP s (by simp [hs])
    cases d
    · cases hr : clashB S (negC (sortF c))
      · rw [checkQ_bad hr]; exact ⟨by simp, fun i _ h => by simp at h; omega⟩
      · have hc1 : clT c m = true := by
          rw [← clT_same (sortF_mem c)]
          exact sound_refutes hS (fun x hx => hP (false, c) (by simp) x ((sortF_mem c x).1 hx)) hr
        by_cases hc : c = []
        · subst hc; simp [clT] at hc1
        · rw [checkQ_add hr hc]
          have hS' : hoT (S ++ [sortF c]) m = true := by
            unfold hoT at *
            rw [List.all_append, hS, List.all_cons, List.all_nil, clT_same (sortF_mem c), hc1]; rfl
          obtain ⟨h1, h2⟩ := checkQ_sound t (S ++ [sortF c]) (k + 1) hS' hP'
          refine ⟨h1, fun i hi hk hd => ?_⟩
          cases i with
          | zero => exact hc1
          | succ i => exact h2 i (by simpa using hi) (by omega) (by simpa using hd)
    · cases hr : S.contains (sortF c)
      · rw [checkQ_none hr]; exact ⟨by simp, fun i _ h => by simp at h; omega⟩
      · rw [checkQ_del hr]
        have hS' : hoT (S.erase (sortF c)) m = true := by
          unfold hoT at *
          rw [List.all_eq_true] at *
          exact fun x hx => hS x (List.mem_of_mem_erase hx)
        obtain ⟨h1, h2⟩ := checkQ_sound t (S.erase (sortF c)) (k + 1) hS' hP'
        refine ⟨h1, fun i hi hk hd => ?_⟩
        cases i with
        | zero => simp at hd
        | succ i => exact h2 i (by simpa using hi) (by omega) (by simpa using hd)
theorem clashB_more {S S' : List (List Int)} (h : ∀ c ∈ S, c ∈ S') {A : List Int} (hc : clashB S A = true) : clashB S' A = true :=
  clashB_sub (fun _ h => h) (fun c hc => ⟨c, h c hc, fun _ => Iff.rfl⟩) hc
/-- With clauses more. -/
theorem checkQ_more : ∀ (P : List Stp) (S S' : List (List Int)) (k : Nat), (∀ s ∈ P, s.1 = false) → (∀ c ∈ S, c ∈ S') → (checkQ S k P).2 = 0 → checkQ S' k P = checkQ S k P
  | [], S, S', k, hd, hs, h => by simp [checkQ_nil] at h
  | (d, c) :: t, S, S', k, hd, hs, h => by
    have : d = false := hd (d, c) (by simp)
    subst this
    cases hr : clashB S (negC (sortF c))
    · rw [checkQ_bad hr] at h; simp at h
    · have hr' := clashB_more hs hr
      by_cases hc : c = []
      · subst hc; rw [checkQ_end hr, checkQ_end hr']
      · rw [checkQ_add hr hc] at h ⊢
        rw [checkQ_add hr' hc]
        refine checkQ_more t _ _ _ (fun s hs => hd s (by simp [hs])) ?_ h
        intro x hx
        rcases List.mem_append.1 hx with h' | h'
        · exact List.mem_append.2 (.inl (hs x h'))
        · exact List.mem_append.2 (.inr h')
/-- The order of clauses counts for nothing. -/
theorem checkQ_perm : ∀ (P : List Stp) (S S' : List (List Int)) (k : Nat), S.Perm S' → checkQ S k P = checkQ S' k P
  | [], S, S', k, h => rfl
  | (d, c) :: t, S, S', k, h => by
    cases d
    · have e := clashB_perm h (negC (sortF c))
      cases hr : clashB S (negC (sortF c))
      · rw [checkQ_bad hr, checkQ_bad (e ▸ hr)]
      · have hr' : clashB S' (negC (sortF c)) = true := e ▸ hr
        by_cases hc : c = []
        · subst hc; rw [checkQ_end hr, checkQ_end hr']
        · rw [checkQ_add hr hc, checkQ_add hr' hc]
          exact checkQ_perm t _ _ _ (h.append_right _)
    · have e : S.contains (sortF c) = S'.contains (sortF c) := by rw [Bool.eq_iff_iff, List.contains_iff_mem, List.contains_iff_mem]; exact h.mem_iff
      cases hr : S.contains (sortF c)
      · rw [checkQ_none hr, checkQ_none (e ▸ hr)]
      · rw [checkQ_del hr, checkQ_del (e ▸ hr)]
        exact checkQ_perm t _ _ _ (h.erase _)
theorem checkQ_shift : ∀ (P : List Stp) (S : List (List Int)) (k j : Nat), checkQ S (k + j) P = ((checkQ S k P).1 + j, (checkQ S k P).2)
  | [], S, k, j => rfl
  | (d, c) :: t, S, k, j => by
    cases d
    · cases hr : clashB S (negC (sortF c))
      · rw [checkQ_bad hr, checkQ_bad hr]
      · by_cases hc : c = []
        · subst hc; rw [checkQ_end hr, checkQ_end hr]
        · rw [checkQ_add hr hc, checkQ_add hr hc, show k + j + 1 = k + 1 + j by omega, checkQ_shift t]
    · cases hr : S.contains (sortF c)
      · rw [checkQ_none hr, checkQ_none hr]
      · rw [checkQ_del hr, checkQ_del hr, show k + j + 1 = k + 1 + j by omega, checkQ_shift t]
/-- A step that takes away what was just added leaves what was. -/
theorem checkQ_kept (S : List (List Int)) (c : List Int) (hc : c ≠ []) (P : List Stp) (h : clashB S (negC (sortF c)) = true) :
    checkQ S 0 ((false, c) :: (true, c) :: P) = ((checkQ S 0 P).1 + 2, (checkQ S 0 P).2) := by
  have hm : (S ++ [sortF c]).contains (sortF c) = true := by rw [List.contains_iff_mem]; simp
  rw [checkQ_add h hc, checkQ_del hm, ← checkQ_shift P S 0 2]
  refine checkQ_perm P _ _ _ ?_
  have h1 : (S ++ [sortF c]).Perm (sortF c :: S) := List.perm_append_comm
  have h2 := h1.erase (sortF c)
  rwa [List.erase_cons_head] at h2
theorem checkQ_kept_no (S : List (List Int)) (c : List Int) (P : List Stp) (h : clashB S (negC (sortF c)) = false) : checkQ S 0 ((false, c) :: P) = (0, 6) := checkQ_bad h
/-- A formula with the empty clause is refuted by one step. -/
theorem checkQ_empty (S : List (List Int)) (h : [] ∈ S) : checkQ S 0 [(false, [])] = (0, 0) := by
  refine checkQ_end ((clashB_iff _ _).2 (.inr ⟨[], h, fun y hy => by simp at hy⟩))
/-- The first of a kind, taken away. -/
theorem erase_first {S : List (List Int)} {s : List Int} : ∀ {i : Nat}, i < S.length → S.getD i [] = s → (∀ j, j < i → S.getD j [] ≠ s) → S.erase s = S.take i ++ S.drop (i + 1) := by
  induction S with
  | nil => intro i hi; simp at hi
  | cons a S ih =>
    intro i hi h1 h2
    cases i with
    | zero => simp at h1; subst h1; simp
    | succ i =>
      have h0 := h2 0 (by omega)
      simp at h0
      rw [List.erase_cons_tail (by simpa using h0), ih (by simpa using hi) (by simpa using h1) (fun j hj => by simpa using h2 (j + 1) (by omega))]
      simp
theorem setsOf_cut (L : List (List Int)) (i : Nat) : setsOf (L.take i ++ L.drop (i + 1)) = (setsOf L).take i ++ (setsOf L).drop (i + 1) := by simp [setsOf, List.map_append, List.map_take, List.map_drop]
theorem setsOf_getD (L : List (List Int)) (i : Nat) (h : i < L.length) : (setsOf L).getD i [] = sortF (L.getD i []) := by simp [setsOf, List.getD_eq_getElem?_getD, h]
theorem setsOf_len (L : List (List Int)) : (setsOf L).length = L.length := by simp [setsOf]
theorem setsOf_app (L : List (List Int)) (c : List Int) : setsOf (L ++ [c]) = setsOf L ++ [sortF c] := by simp [setsOf]
theorem setsOf_sets (L : List (List Int)) : setsOf (setsOf L) = setsOf L := by
  unfold setsOf; rw [List.map_map]; congr 1; funext c; exact sortF_sortF c
end Go.Proofs.YtahedhpffjgimaaDoor
/- Which clause of a row is the first that is the same. -/
namespace Go.Proofs.YtahedhpffjgimaaDoor
open Go.RowKit
open Go.Lib
set_option maxHeartbeats 400000 in
theorem isIt_any (g : Nat) (A A' : Option Addr) (c c' : Nat) (l l' : List Int) (w : World) (h : RI w w.heap.size A l) (h' : RI w w.heap.size A' l') (hg : w.cell? ⟨g, 0, none⟩ = some (.slice A' l'.length c')) (hn : l.length ≤ maxLen) (hn' : l'.length ≤ maxLen) :
    Calls Tryd.prog 146 #[.slice A l.length c, .pointer (some ⟨g, 0, none⟩)] w (RetV w (.bool (l == l'))) := by
  have C := Equal_any A A' c c' l l' w h h' hn hn'
  generalize (l == l') = b at *
  clear h h'
  go_enter Tryd.func146, Tryd.ntmps146
  go_wp2_with fail
  refine C.mono ?_; rintro e w' ⟨rfl, hb⟩
  have HB := Lib.hid hb
  clear C hb
  go_wp2
  go_ret
  exact ⟨rfl, HB.out⟩
/-- A call that tells the first place of a clause, or that there is none. -/
def RetIx (w0 : World) (S : List (List Int)) (c : List Int) (e : Ending) (w' : World) : Prop :=
  ∃ r : Int, e = .returned (.int .i64 r) ∧ Below w0.heap.size w0 w' ∧ ((r = -1 ∧ c ∉ S) ∨ ∃ i : Nat, r = i ∧ i < S.length ∧ S.getD i [] = c ∧ ∀ j, j < i → S.getD j [] ≠ c)
set_option maxHeartbeats 800000 in
theorem indexF_any (g : Nat) (A A' : Option Addr) (k c' : Nat) (S : List (List Int)) (l' : List Int) (w : World) (h : RC w w.heap.size A S) (h' : RI w w.heap.size A' l') (hg : w.cell? ⟨g, 0, none⟩ = some (.slice A' l'.length c')) (hn : S.length ≤ maxLen) (hn' : l'.length ≤ maxLen) (hgl : g < w.heap.size) :
    Calls Tryd.prog 147 #[.slice A S.length k, .func (.func 146) #[] #[.pointer (some ⟨g, 0, none⟩)]] w (RetIx w S l') := by
  unfold maxLen at hn
  have HH := Lib.hid (And.intro h (And.intro h' (And.intro hg hn')))
  clear h h' hg hn'
  go_enter Tryd.func147, Tryd.ntmps147
  go_wp2
  go_loopw [8] (fun i wr => ∃ j : Nat, j ≤ S.length ∧ i = .int .i64 j ∧ Below w.heap.size w wr ∧ Hid (∀ a, a < j → S.getD a [] ≠ l')) (fun i _ => S.length - (intOf i).toNat)
  case atStart => exact ⟨0, Nat.zero_le _, rfl, Below.refl _ _, Lib.hid fun a ha => absurd ha (Nat.not_lt_zero _)⟩
  case round =>
    obtain ⟨j, hj, rfl, hb, HJ⟩ := hrel
    by_cases hlt : j < S.length
    · obtain ⟨h, h', hg, hn'⟩ := HH.out
      obtain ⟨ad, A1, c1, rfl, hab, hc, hr, hm⟩ := h j hlt
      obtain ⟨u, hu⟩ : ∃ u, S.getD j [] = u := ⟨_, rfl⟩
      rw [hu] at hc hr hm
      have HU := Lib.hid hu
      clear hu
      have hcw := (hb.cell (p := ad.add j) (by rw [block_add]; exact hab)).trans hc
      have hgw := (hb.cell (p := ⟨g, 0, none⟩) hgl).trans hg
      have C := isIt_any g A1 A' c1 c' u l' wr ((hr.below hb).mono hb.size) ((h'.below hb).mono hb.size) hgw hm hn'
      have HB := Lib.hid hb
      have hlt' : (j : Int) < S.length := by omega
      have HLT := Lib.hid hlt
      clear h h' hg hn' hc hr hgw hb
      cases hp : (u == l')
      · rw [hp] at C
        have HE : Hid (∀ a, a < j + 1 → S.getD a [] ≠ l') := Lib.hid fun a ha => by
          by_cases e : a = j
          · subst e; rw [HU.out]; simpa using hp
          · exact HJ.out a (by omega)
        clear hp
        go_wp2_with fail
        refine C.mono ?_; rintro e w' ⟨rfl, hb'⟩
        have HB' := Lib.hid (bnx HB.out hb')
        clear C hb'
        go_wp2
        go_roundw
        case rel => exact ⟨j + 1, by have := HLT.out; omega, by go_num, HB'.out, HE⟩
        case measure => have := HLT.out; simp [intOf]; omega
      · rw [hp] at C
        have HE := Lib.hid (HU.out.trans (eq_of_beq hp))
        clear hp
        go_wp2_with fail
        refine C.mono ?_; rintro e w' ⟨rfl, hb'⟩
        have HB' := Lib.hid (bnx HB.out hb')
        clear C hb'
        go_wp2
        go_ret
        exact ⟨j, rfl, HB'.out, .inr ⟨j, rfl, HLT.out, HE.out, HJ.out⟩⟩
    · have HB := Lib.hid hb
      have HN : Hid (l' ∉ S) := Lib.hid fun hm => by
        obtain ⟨a, ha, e⟩ := List.mem_iff_getElem.1 hm
        exact HJ.out a (by omega) (by simp [List.getD_eq_getElem?_getD, ha, e])
      clear HJ HH hb
      go_wp2
      go_ret
      exact ⟨-1, rfl, HB.out, .inl ⟨rfl, HN.out⟩⟩
end Go.Proofs.YtahedhpffjgimaaDoor
