/-
  What clauses force, as plain mathematics: the closure, when it is found, and the steps of two watched literals. No conditions.
  How things stand in memory while clauses are closed.
-/
import Derived.Test.YtahedhpffjgimaaDoorProg
import Derived.WalkKit
import Derived.WalkSpells
import Derived.WalkLawsBesides
import Derived.Lib.Hide
import Derived.BigQuiet
import Derived.Deep.QuietTactic
import Derived.Deep.RegionWith
import Derived.Deep.RegionHeld3
import Derived.Test.YtahedhpffjgimaaDoorQ08
set_option linter.unusedVariables false
/- What clauses force, as plain mathematics: the closure, when it is found, and the steps of two watched literals. No conditions. -/
namespace Go.Proofs.YtahedhpffjgimaaDoor
/-- What is forced of clauses and literals. -/
inductive Forced (L : List (List Int)) (A : List Int) : Int → Prop
  | given (x : Int) : x ∈ A → Forced L A x
  | unit (c : List Int) (x : Int) : c ∈ L → x ∈ c → (∀ y ∈ c, y ≠ x → Forced L A (-y)) → Forced L A x
/-- They clash. -/
def Clash (L : List (List Int)) (A : List Int) : Prop := (∃ x, Forced L A x ∧ Forced L A (-x)) ∨ ∃ c ∈ L, ∀ y ∈ c, Forced L A (-y)
/-- A row that is closed. -/
structure Closed (L : List (List Int)) (A F : List Int) : Prop where
  sound : ∀ z ∈ F, Forced L A z
  has : ∀ z ∈ A, z ∈ F
  cons : ∀ z ∈ F, -z ∉ F
  each : ∀ c ∈ L, (∃ y ∈ c, y ∈ F) ∨ ∃ y z, y ∈ c ∧ z ∈ c ∧ y ≠ z ∧ -y ∉ F ∧ -z ∉ F
theorem Closed.all {L : List (List Int)} {A F : List Int} (h : Closed L A F) {x : Int} (hx : Forced L A x) : x ∈ F := by
  induction hx with
  | given x hx => exact h.has x hx
  | unit c x hc hxc _ ih =>
    rcases h.each c hc with ⟨y, hy, hyF⟩ | ⟨y, z, hy, hz, hyz, ny, nz⟩
    · by_cases e : y = x
      · exact e ▸ hyF
      · exact absurd (ih y hy e) (h.cons y hyF)
    · by_cases e : y = x
      · exact absurd (ih z hz (fun e2 => hyz (e.trans e2.symm))) nz
      · exact absurd (ih y hy e) ny
theorem Closed.mem {L : List (List Int)} {A F : List Int} (h : Closed L A F) (x : Int) : x ∈ F ↔ Forced L A x := ⟨h.sound x, h.all⟩
theorem Closed.clash {L : List (List Int)} {A F : List Int} (h : Closed L A F) : ¬ Clash L A := by
  rintro (⟨x, h1, h2⟩ | ⟨c, hc, hy⟩)
  · exact h.cons x (h.all h1) (h.all h2)
  · rcases h.each c hc with ⟨y, hyc, hyF⟩ | ⟨y, z, hyc, _, _, ny, _⟩
    · exact h.cons y hyF (h.all (hy y hyc))
    · exact ny (h.all (hy y hyc))
/-- A clause that waits: two of its literals, and what is left of it behind them. -/
structure Wt where
  one : Int
  two : Int
  rest : List Int
/-- The one that waits under a number is of a clause. -/
def Wok (D : List Int) (x : Int) (S : List Nat) (F : List Int) (R : Int → List Nat) (W : Nat → Wt) (id : Nat) (c : List Int) : Prop :=
  (W id).one ∈ c ∧ (W id).two ∈ c ∧ (∀ y ∈ (W id).rest, y ∈ c) ∧ (∀ y ∈ c, y = (W id).one ∨ y = (W id).two ∨ y ∈ (W id).rest ∨ -y ∈ F) ∧
    ((W id).one ∈ F ∨ ((W id).one ≠ (W id).two ∧ id ∈ R (W id).one ∧ id ∈ R (W id).two ∧ (W id).one ∉ D ∧ (W id).two ∉ D ∧ ((W id).one = x → id ∈ S) ∧ ((W id).two = x → id ∈ S)))
/-- How things stand: clauses E are entered, the literals D are dropped, of x those of S are still to be looked at; F is forced, R are the rows, W those that wait. -/
structure Inv (L E : List (List Int)) (A D : List Int) (x : Int) (S : List Nat) (F : List Int) (R : Int → List Nat) (W : Nat → Wt) : Prop where
  sound : ∀ z ∈ F, Forced L A z
  cons : ∀ z ∈ F, -z ∉ F
  dF : ∀ d ∈ D, -d ∈ F
  xF : S ≠ [] → -x ∈ F
  sub : ∀ c ∈ E, c ∈ L
  ent : ∀ c ∈ E, (∃ y ∈ c, y ∈ F) ∨ ∃ id, Wok D x S F R W id c
  row : ∀ k, ∀ id ∈ R k, (∃ c ∈ E, Wok D x S F R W id c) ∧ (k ∈ D ∨ (x ≠ 0 ∧ k = x) ∨ (W id).one = k ∨ (W id).two = k ∨ (W id).one ∈ F)
  nod : ∀ k, (R k).Nodup
  cur : ∀ id ∈ S, id ∈ R x ∧ ((W id).one = x ∨ (W id).two = x ∨ (W id).one ∈ F)
  nodS : S.Nodup
  fnod : F.Nodup
variable {L E : List (List Int)} {A D : List Int} {x : Int} {S : List Nat} {F : List Int} {R : Int → List Nat} {W : Nat → Wt}
theorem Inv.nz (h : Inv L E A D x S F R W) : (0 : Int) ∉ F := fun h0 => h.cons 0 h0 (by simpa using h0)
theorem Inv.first (L : List (List Int)) (A : List Int) (W : Nat → Wt) : Inv L [] A [] 0 [] [] (fun _ => []) W :=
  ⟨by simp, by simp, by simp, by simp, by simp, by simp, by simp, by simp, by simp, by simp, by simp⟩
theorem Wok.more {z : Int} {id : Nat} {c : List Int} (h : Wok D x S F R W id c) : Wok D x S (F ++ [z]) R W id c := by
  obtain ⟨h1, h2, h3, h4, h5⟩ := h
  refine ⟨h1, h2, h3, fun y hy => ?_, ?_⟩
  · rcases h4 y hy with h | h | h | h
    · exact .inl h
    · exact .inr (.inl h)
    · exact .inr (.inr (.inl h))
    · exact .inr (.inr (.inr (by simp [h])))
  · rcases h5 with h | h
    · exact .inl (by simp [h])
    · exact .inr h
/-- A literal more is forced. -/
theorem Inv.force (h : Inv L E A D x S F R W) {z : Int} (hz : Forced L A z) (z0 : z ≠ 0) (hp : z ∉ F) (hn : -z ∉ F) : Inv L E A D x S (F ++ [z]) R W := by
  refine ⟨?_, ?_, ?_, ?_, h.sub, ?_, ?_, h.nod, ?_, h.nodS, by rw [List.nodup_append]; exact ⟨h.fnod, by simp, by intro a ha b hb; simp at hb; subst hb; intro e; exact hp (e ▸ ha)⟩⟩
  · intro y hy
    rcases List.mem_append.1 hy with h' | h'
    · exact h.sound y h'
    · rw [List.mem_singleton.1 h']; exact hz
  · intro y hy hy'
    rcases List.mem_append.1 hy with h' | h' <;> rcases List.mem_append.1 hy' with h'' | h''
    · exact h.cons y h' h''
    · have e := List.mem_singleton.1 h''
      exact hn (by rw [← e]; simpa using h')
    · have e := List.mem_singleton.1 h'
      exact hn (by rw [← e]; exact h'')
    · have e := List.mem_singleton.1 h'
      have e' := List.mem_singleton.1 h''
      omega
  · intro d hd; simp [h.dF d hd]
  · intro hS; simp [h.xF hS]
  · intro c hc
    rcases h.ent c hc with ⟨y, hy, hF⟩ | ⟨id, hid⟩
    · exact .inl ⟨y, hy, by simp [hF]⟩
    · exact .inr ⟨id, hid.more⟩
  · intro k id hid
    obtain ⟨⟨c, hc, hw⟩, hk⟩ := h.row k id hid
    refine ⟨⟨c, hc, hw.more⟩, ?_⟩
    rcases hk with h' | h' | h' | h' | h'
    · exact .inl h'
    · exact .inr (.inl h')
    · exact .inr (.inr (.inl h'))
    · exact .inr (.inr (.inr (.inl h')))
    · exact .inr (.inr (.inr (.inr (by simp [h']))))
  · intro id hid
    obtain ⟨h1, h2⟩ := h.cur id hid
    refine ⟨h1, ?_⟩
    rcases h2 with h' | h' | h'
    · exact .inl h'
    · exact .inr (.inl h')
    · exact .inr (.inr (by simp [h']))
/-- A clause that has a forced literal is entered. -/
theorem Inv.enter (h : Inv L E A D x S F R W) {c : List Int} (hc : c ∈ L) {y : Int} (hy : y ∈ c) (hF : y ∈ F) : Inv L (E ++ [c]) A D x S F R W := by
  refine ⟨h.sound, h.cons, h.dF, h.xF, ?_, ?_, ?_, h.nod, h.cur, h.nodS, h.fnod⟩
  · intro d hd
    rcases List.mem_append.1 hd with h' | h'
    · exact h.sub d h'
    · rw [List.mem_singleton.1 h']; exact hc
  · intro d hd
    rcases List.mem_append.1 hd with h' | h'
    · exact h.ent d h'
    · rw [List.mem_singleton.1 h']; exact .inl ⟨y, hy, hF⟩
  · intro k id hid
    obtain ⟨⟨d, hd, hw⟩, hk⟩ := h.row k id hid
    exact ⟨⟨d, by simp [hd], hw⟩, hk⟩
/-- The rows with a number more at a literal. -/
def rowAdd (R : Int → List Nat) (k : Int) (id : Nat) : Int → List Nat := fun j => if j = k then R j ++ [id] else R j
theorem mem_rowAdd {R : Int → List Nat} {k j : Int} {id i : Nat} : i ∈ rowAdd R k id j ↔ i ∈ R j ∨ (j = k ∧ i = id) := by
  unfold rowAdd; split <;> simp_all
/-- Those that wait, one of them anew. -/
def wtPut (W : Nat → Wt) (id : Nat) (v : Wt) : Nat → Wt := fun i => if i = id then v else W i
theorem wtPut_same (W : Nat → Wt) (id : Nat) (v : Wt) : wtPut W id v id = v := by simp [wtPut]
theorem wtPut_other {W : Nat → Wt} {id i : Nat} {v : Wt} (h : i ≠ id) : wtPut W id v i = W i := by simp [wtPut, h]
/-- A clause of which two literals aren't forced the other way round waits for them. -/
theorem Inv.wait (h : Inv L E A [] 0 [] F R W) {c : List Int} (hc : c ∈ L) (c0 : (0 : Int) ∉ c) {one two : Int} {rest : List Int} (h1 : one ∈ c) (h2 : two ∈ c) (hne : one ≠ two) (hr : ∀ y ∈ rest, y ∈ c) (hcov : ∀ y ∈ c, y = one ∨ y = two ∨ y ∈ rest ∨ -y ∈ F) {id : Nat} (hid : ∀ k, id ∉ R k) :
    Inv L (E ++ [c]) A [] 0 [] F (rowAdd (rowAdd R one id) two id) (wtPut W id ⟨one, two, rest⟩) := by
  have hent : ∀ d ∈ E, Wok [] 0 [] F R W id d → ∃ y ∈ d, y ∈ F := by
    rintro d _ ⟨a1, _, _, _, a5⟩
    rcases a5 with a5 | ⟨_, b2, _⟩
    · exact ⟨_, a1, a5⟩
    · exact absurd b2 (hid _)
  have keep : ∀ i d, i ≠ id → Wok [] 0 [] F R W i d → Wok [] 0 [] F (rowAdd (rowAdd R one id) two id) (wtPut W id ⟨one, two, rest⟩) i d := by
    intro i d hi hw
    unfold Wok at *
    rw [wtPut_other hi]
    obtain ⟨a1, a2, a3, a4, a5⟩ := hw
    refine ⟨a1, a2, a3, a4, ?_⟩
    rcases a5 with a5 | ⟨b1, b2, b3, b4, b5, b6, b7⟩
    · exact .inl a5
    · exact .inr ⟨b1, by simp [mem_rowAdd, b2], by simp [mem_rowAdd, b3], b4, b5, b6, b7⟩
  have own : Wok [] 0 [] F (rowAdd (rowAdd R one id) two id) (wtPut W id ⟨one, two, rest⟩) id c := by
    unfold Wok
    rw [wtPut_same]
    refine ⟨h1, h2, hr, hcov, .inr ⟨hne, by simp [mem_rowAdd], by simp [mem_rowAdd], by simp, by simp, ?_, ?_⟩⟩
    · intro e; exact absurd (e ▸ h1) c0
    · intro e; exact absurd (e ▸ h2) c0
  refine ⟨h.sound, h.cons, h.dF, h.xF, ?_, ?_, ?_, ?_, by simp, by simp, h.fnod⟩
  · intro d hd
    rcases List.mem_append.1 hd with h' | h'
    · exact h.sub d h'
    · rw [List.mem_singleton.1 h']; exact hc
  · intro d hd
    rcases List.mem_append.1 hd with h' | h'
    · rcases h.ent d h' with h'' | ⟨i, hi⟩
      · exact .inl h''
      · by_cases e : i = id
        · subst e; exact .inl (hent d h' hi)
        · exact .inr ⟨i, keep i d e hi⟩
    · rw [List.mem_singleton.1 h']; exact .inr ⟨id, own⟩
  · intro k i hi
    by_cases e : i = id
    · subst e
      refine ⟨⟨c, by simp, own⟩, ?_⟩
      rw [wtPut_same]
      rcases mem_rowAdd.1 hi with h' | ⟨h', _⟩
      · rcases mem_rowAdd.1 h' with h'' | ⟨h'', _⟩
        · exact absurd h'' (hid k)
        · exact .inr (.inr (.inl h''.symm))
      · exact .inr (.inr (.inr (.inl h'.symm)))
    · have hk : i ∈ R k := by
        rcases mem_rowAdd.1 hi with h' | ⟨_, h'⟩
        · rcases mem_rowAdd.1 h' with h'' | ⟨_, h''⟩
          · exact h''
          · exact absurd h'' e
        · exact absurd h' e
      obtain ⟨⟨d, hd, hw⟩, hkk⟩ := h.row k i hk
      refine ⟨⟨d, by simp [hd], keep i d e hw⟩, ?_⟩
      rw [wtPut_other e]; exact hkk
  · intro k
    have hn := h.nod k
    have hid' := hid k
    unfold rowAdd
    by_cases e2 : k = two
    · by_cases e1 : k = one
      · exact absurd (e1.symm.trans e2) hne
      · rw [if_pos e2, if_neg e1]
        rw [List.nodup_append]
        exact ⟨hn, by simp, by intro a ha b hb; simp at hb; subst hb; intro e; exact hid' (e ▸ ha)⟩
    · rw [if_neg e2]
      by_cases e1 : k = one
      · rw [if_pos e1]
        rw [List.nodup_append]
        exact ⟨hn, by simp, by intro a ha b hb; simp at hb; subst hb; intro e; exact hid' (e ▸ ha)⟩
      · rw [if_neg e1]; exact hn
/-- A literal begins to be dropped. -/
theorem Inv.begin (h : Inv L E A D 0 [] F R W) (hx : -x ∈ F) (hD : x ∉ D) : Inv L E A D x (R x) F R W := by
  have x0 : x ≠ 0 := by intro e; subst e; exact h.nz (by simpa using hx)
  have key : ∀ i d, Wok D 0 [] F R W i d → Wok D x (R x) F R W i d := by
    intro i d hw
    obtain ⟨a1, a2, a3, a4, a5⟩ := hw
    refine ⟨a1, a2, a3, a4, ?_⟩
    rcases a5 with a5 | ⟨b1, b2, b3, b4, b5, b6, b7⟩
    · exact .inl a5
    · exact .inr ⟨b1, b2, b3, b4, b5, fun e => e ▸ b2, fun e => e ▸ b3⟩
  refine ⟨h.sound, h.cons, h.dF, fun _ => hx, h.sub, ?_, ?_, h.nod, ?_, h.nod x, h.fnod⟩
  · intro c hc
    rcases h.ent c hc with h' | ⟨i, hi⟩
    · exact .inl h'
    · exact .inr ⟨i, key i c hi⟩
  · intro k i hi
    obtain ⟨⟨d, hd, hw⟩, hk⟩ := h.row k i hi
    refine ⟨⟨d, hd, key i d hw⟩, ?_⟩
    obtain ⟨a1, a2, a3, a4, a5⟩ := hw
    rcases hk with h' | h' | h' | h' | h'
    · exact .inl h'
    · exact absurd rfl h'.1
    · exact .inr (.inr (.inl h'))
    · exact .inr (.inr (.inr (.inl h')))
    · exact .inr (.inr (.inr (.inr h')))
  · intro i hi
    refine ⟨hi, ?_⟩
    obtain ⟨_, hk⟩ := h.row x i hi
    rcases hk with h' | h' | h' | h' | h'
    · exact absurd h' hD
    · exact absurd rfl h'.1
    · exact .inl h'
    · exact .inr (.inl h')
    · exact .inr (.inr h')
/-- A literal is dropped. -/
theorem Inv.done (h : Inv L E A D x [] F R W) (hx : -x ∈ F) (c0 : ∀ c ∈ L, (0 : Int) ∉ c) : Inv L E A (D ++ [x]) 0 [] F R W := by
  have key : ∀ i, ∀ d ∈ E, Wok D x [] F R W i d → Wok (D ++ [x]) 0 [] F R W i d := by
    intro i d hd hw
    obtain ⟨a1, a2, a3, a4, a5⟩ := hw
    refine ⟨a1, a2, a3, a4, ?_⟩
    rcases a5 with a5 | ⟨b1, b2, b3, b4, b5, b6, b7⟩
    · exact .inl a5
    · refine .inr ⟨b1, b2, b3, ?_, ?_, ?_, ?_⟩
      · intro hm
        rcases List.mem_append.1 hm with h' | h'
        · exact b4 h'
        · exact absurd (b6 (List.mem_singleton.1 h')) (by simp)
      · intro hm
        rcases List.mem_append.1 hm with h' | h'
        · exact b5 h'
        · exact absurd (b7 (List.mem_singleton.1 h')) (by simp)
      · intro e; exact absurd (e ▸ a1) (c0 d (h.sub d hd))
      · intro e; exact absurd (e ▸ a2) (c0 d (h.sub d hd))
  refine ⟨h.sound, h.cons, ?_, by simp, h.sub, ?_, ?_, h.nod, by simp, by simp, h.fnod⟩
  · intro d hd
    rcases List.mem_append.1 hd with h' | h'
    · exact h.dF d h'
    · rw [List.mem_singleton.1 h']; exact hx
  · intro c hc
    rcases h.ent c hc with h' | ⟨i, hi⟩
    · exact .inl h'
    · exact .inr ⟨i, key i c hc hi⟩
  · intro k i hi
    obtain ⟨⟨d, hd, hw⟩, hk⟩ := h.row k i hi
    refine ⟨⟨d, hd, key i d hd hw⟩, ?_⟩
    rcases hk with h' | ⟨_, h'⟩ | h'
    · exact .inl (by simp [h'])
    · exact .inl (by simp [h'])
    · exact .inr (.inr h')
/-- The literal that is left to look at, of one that waits. -/
def other (x : Int) (v : Wt) : Int := if v.one = x then v.two else v.one
/-- One that waits has a forced literal. -/
theorem Inv.skip {id : Nat} (h : Inv L E A D x (id :: S) F R W) (ht : other x (W id) ∈ F) : Inv L E A D x S F R (wtPut W id ⟨other x (W id), (W id).two, (W id).rest⟩) := by
  have hxF := h.xF (by simp)
  have hnd := h.nodS
  rw [List.nodup_cons] at hnd
  have keep : ∀ i d, i ≠ id → Wok D x (id :: S) F R W i d → Wok D x S F R (wtPut W id ⟨other x (W id), (W id).two, (W id).rest⟩) i d := by
    intro i d hi hw
    unfold Wok at *
    rw [wtPut_other hi]
    obtain ⟨a1, a2, a3, a4, a5⟩ := hw
    refine ⟨a1, a2, a3, a4, ?_⟩
    rcases a5 with a5 | ⟨b1, b2, b3, b4, b5, b6, b7⟩
    · exact .inl a5
    · refine .inr ⟨b1, b2, b3, b4, b5, fun e => ?_, fun e => ?_⟩
      · rcases List.mem_cons.1 (b6 e) with h' | h'
        · exact absurd h' hi
        · exact h'
      · rcases List.mem_cons.1 (b7 e) with h' | h'
        · exact absurd h' hi
        · exact h'
  have own : ∀ d, Wok D x (id :: S) F R W id d → Wok D x S F R (wtPut W id ⟨other x (W id), (W id).two, (W id).rest⟩) id d := by
    intro d hw
    unfold Wok at *
    rw [wtPut_same]
    obtain ⟨a1, a2, a3, a4, a5⟩ := hw
    refine ⟨?_, a2, a3, ?_, .inl ht⟩
    · simp only [other]; split
      · exact a2
      · exact a1
    · intro y hy
      rcases a4 y hy with h' | h' | h' | h'
      · by_cases e : (W id).one = x
        · exact .inr (.inr (.inr (by rw [h', e]; exact hxF)))
        · refine .inl ?_
          simp only [other]; rw [if_neg e]; exact h'
      · exact .inr (.inl h')
      · exact .inr (.inr (.inl h'))
      · exact .inr (.inr (.inr h'))
  have all : ∀ i d, Wok D x (id :: S) F R W i d → Wok D x S F R (wtPut W id ⟨other x (W id), (W id).two, (W id).rest⟩) i d := by
    intro i d hw
    by_cases e : i = id
    · subst e; exact own d hw
    · exact keep i d e hw
  refine ⟨h.sound, h.cons, h.dF, fun _ => hxF, h.sub, ?_, ?_, h.nod, ?_, hnd.2, h.fnod⟩
  · intro c hc
    rcases h.ent c hc with h' | ⟨i, hi⟩
    · exact .inl h'
    · exact .inr ⟨i, all i c hi⟩
  · intro k i hi
    obtain ⟨⟨d, hd, hw⟩, hk⟩ := h.row k i hi
    refine ⟨⟨d, hd, all i d hw⟩, ?_⟩
    by_cases e : i = id
    · subst e; rw [wtPut_same]; exact .inr (.inr (.inr (.inr ht)))
    · rw [wtPut_other e]; exact hk
  · intro i hi
    have e : i ≠ id := fun e => hnd.1 (e ▸ hi)
    rw [wtPut_other e]
    exact h.cur i (by simp [hi])
/-- Of one that waits, and isn't done, the two literals are x and the other one. -/
theorem Inv.pair {id : Nat} (h : Inv L E A D x (id :: S) F R W) (ht : other x (W id) ∉ F) : (W id).one ∉ F ∧ (((W id).one = x ∧ other x (W id) = (W id).two) ∨ ((W id).one ≠ x ∧ (W id).two = x ∧ other x (W id) = (W id).one)) := by
  have hxF := h.xF (by simp)
  have hx : x ∉ F := by
    intro hx
    exact h.cons (-x) hxF (by simpa using hx)
  obtain ⟨_, hk⟩ := h.cur id (by simp)
  by_cases e : (W id).one = x
  · exact ⟨e ▸ hx, .inl ⟨e, by simp [other, e]⟩⟩
  · have eo : other x (W id) = (W id).one := by simp [other, e]
    rw [eo] at ht
    refine ⟨ht, .inr ⟨e, ?_, eo⟩⟩
    rcases hk with h' | h' | h'
    · exact absurd h' e
    · exact h'
    · exact absurd h' ht
/-- All that is left of it is forced the other way round: the other one is forced. -/
theorem Inv.only {id : Nat} (h : Inv L E A D x (id :: S) F R W) (ht : other x (W id) ∉ F) (hr : ∀ y ∈ (W id).rest, y = other x (W id) ∨ -y ∈ F) : Forced L A (other x (W id)) := by
  have hxF := h.xF (by simp)
  obtain ⟨h1, hp⟩ := h.pair ht
  obtain ⟨⟨c, hc, hw⟩, _⟩ := h.row x id (h.cur id (by simp)).1
  obtain ⟨a1, a2, a3, a4, a5⟩ := hw
  refine Forced.unit c _ (h.sub c hc) ?_ ?_
  · rcases hp with ⟨_, e⟩ | ⟨_, _, e⟩ <;> rw [e] <;> assumption
  · intro y hy hne
    refine h.sound _ ?_
    rcases a4 y hy with h' | h' | h' | h'
    · rcases hp with ⟨e1, e⟩ | ⟨_, _, e⟩
      · rw [h', e1]; exact hxF
      · exact absurd (h'.trans e.symm) hne
    · rcases hp with ⟨e1, e⟩ | ⟨_, e2, e⟩
      · exact absurd (h'.trans e.symm) hne
      · rw [h', e2]; exact hxF
    · rcases hr y h' with h'' | h''
      · exact absurd h'' hne
      · exact h''
    · exact h'
/-- Another literal is found to wait for. -/
theorem Inv.move {id : Nat} (h : Inv L E A D x (id :: S) F R W) (ht : other x (W id) ∉ F) {pre post : List Int} {y : Int} (hr : (W id).rest = pre ++ y :: post) (hpre : ∀ z ∈ pre, z = other x (W id) ∨ -z ∈ F) (hy : y ≠ other x (W id)) (hyF : -y ∉ F) :
    Inv L E A D x S F (rowAdd R y id) (wtPut W id ⟨other x (W id), y, post⟩) := by
  have hxF := h.xF (by simp)
  have hnd := h.nodS
  rw [List.nodup_cons] at hnd
  obtain ⟨h1, hp⟩ := h.pair ht
  have hyx : y ≠ x := by intro e; subst e; exact hyF hxF
  have hyD : y ∉ D := fun hd => hyF (h.dF y hd)
  have keep : ∀ i d, i ≠ id → Wok D x (id :: S) F R W i d → Wok D x S F (rowAdd R y id) (wtPut W id ⟨other x (W id), y, post⟩) i d := by
    intro i d hi hw
    unfold Wok at *
    rw [wtPut_other hi]
    obtain ⟨a1, a2, a3, a4, a5⟩ := hw
    refine ⟨a1, a2, a3, a4, ?_⟩
    rcases a5 with a5 | ⟨b1, b2, b3, b4, b5, b6, b7⟩
    · exact .inl a5
    · refine .inr ⟨b1, by simp [mem_rowAdd, b2], by simp [mem_rowAdd, b3], b4, b5, fun e => ?_, fun e => ?_⟩
      · rcases List.mem_cons.1 (b6 e) with h' | h'
        · exact absurd h' hi
        · exact h'
      · rcases List.mem_cons.1 (b7 e) with h' | h'
        · exact absurd h' hi
        · exact h'
  have own : ∀ d, Wok D x (id :: S) F R W id d → Wok D x S F (rowAdd R y id) (wtPut W id ⟨other x (W id), y, post⟩) id d := by
    intro d hw
    unfold Wok at *
    rw [wtPut_same]
    obtain ⟨a1, a2, a3, a4, a5⟩ := hw
    have hyr : y ∈ (W id).rest := by rw [hr]; simp
    rcases a5 with a5 | ⟨b1, b2, b3, b4, b5, b6, b7⟩
    · exact absurd a5 h1
    refine ⟨?_, a3 y hyr, fun z hz => a3 z (by rw [hr]; simp [hz]), ?_, .inr ⟨Ne.symm hy, ?_, by simp [mem_rowAdd], ?_, hyD, ?_, fun e => absurd e hyx⟩⟩
    · rcases hp with ⟨_, e⟩ | ⟨_, _, e⟩ <;> rw [e] <;> assumption
    · intro z hz
      rcases a4 z hz with h' | h' | h' | h'
      · rcases hp with ⟨e1, e⟩ | ⟨_, _, e⟩
        · exact .inr (.inr (.inr (by rw [h', e1]; exact hxF)))
        · exact .inl (h'.trans e.symm)
      · rcases hp with ⟨_, e⟩ | ⟨_, e2, e⟩
        · exact .inl (h'.trans e.symm)
        · exact .inr (.inr (.inr (by rw [h', e2]; exact hxF)))
      · rw [hr] at h'
        rcases List.mem_append.1 h' with h'' | h''
        · rcases hpre z h'' with h3 | h3
          · exact .inl h3
          · exact .inr (.inr (.inr h3))
        · rcases List.mem_cons.1 h'' with h3 | h3
          · exact .inr (.inl h3)
          · exact .inr (.inr (.inl h3))
      · exact .inr (.inr (.inr h'))
    · rw [mem_rowAdd]
      rcases hp with ⟨_, e⟩ | ⟨_, _, e⟩ <;> rw [e]
      · exact .inl b3
      · exact .inl b2
    · rcases hp with ⟨_, e⟩ | ⟨_, _, e⟩ <;> rw [e] <;> assumption
    · intro e3
      rcases hp with ⟨e1, e⟩ | ⟨e1, _, e⟩
      · exact absurd (e1.trans (e3.symm.trans e)) b1
      · exact absurd (e.symm.trans e3) e1
  have all : ∀ i d, Wok D x (id :: S) F R W i d → Wok D x S F (rowAdd R y id) (wtPut W id ⟨other x (W id), y, post⟩) i d := by
    intro i d hw
    by_cases e : i = id
    · subst e; exact own d hw
    · exact keep i d e hw
  have free : id ∉ R y := by
    intro hm
    obtain ⟨_, hk⟩ := h.row y id hm
    rcases hk with h' | ⟨_, h'⟩ | h' | h' | h'
    · exact hyD h'
    · exact hyx h'
    · rcases hp with ⟨e1, _⟩ | ⟨_, _, e⟩
      · exact hyx (h'.symm.trans e1)
      · exact hy (h'.symm.trans e.symm)
    · rcases hp with ⟨_, e⟩ | ⟨_, e2, _⟩
      · exact hy (h'.symm.trans e.symm)
      · exact hyx (h'.symm.trans e2)
    · exact h1 h'
  have x0 : x ≠ 0 := by intro e; subst e; exact h.nz (by simpa using hxF)
  refine ⟨h.sound, h.cons, h.dF, fun _ => hxF, h.sub, ?_, ?_, ?_, ?_, hnd.2, h.fnod⟩
  · intro c hc
    rcases h.ent c hc with h' | ⟨i, hi⟩
    · exact .inl h'
    · exact .inr ⟨i, all i c hi⟩
  · intro k i hi
    by_cases e : i = id
    · subst e
      obtain ⟨⟨d, hd, hw⟩, _⟩ := h.row x i (h.cur i (by simp)).1
      refine ⟨⟨d, hd, all i d hw⟩, ?_⟩
      rw [wtPut_same]
      rcases mem_rowAdd.1 hi with h' | ⟨h', _⟩
      · obtain ⟨_, hk⟩ := h.row k i h'
        rcases hk with h' | h' | h' | h' | h'
        · exact .inl h'
        · exact .inr (.inl h')
        · rcases hp with ⟨e1, _⟩ | ⟨_, _, e⟩
          · exact .inr (.inl ⟨x0, h'.symm.trans e1⟩)
          · exact .inr (.inr (.inl (e.trans h')))
        · rcases hp with ⟨_, e⟩ | ⟨_, e2, _⟩
          · exact .inr (.inr (.inl (e.trans h')))
          · exact .inr (.inl ⟨x0, h'.symm.trans e2⟩)
        · exact absurd h' h1
      · exact .inr (.inr (.inr (.inl h'.symm)))
    · have hk0 : i ∈ R k := by
        rcases mem_rowAdd.1 hi with h' | ⟨_, h'⟩
        · exact h'
        · exact absurd h' e
      obtain ⟨⟨d, hd, hw⟩, hk⟩ := h.row k i hk0
      refine ⟨⟨d, hd, all i d hw⟩, ?_⟩
      rw [wtPut_other e]; exact hk
  · intro k
    unfold rowAdd
    split
    · rename_i e
      rw [List.nodup_append]
      exact ⟨h.nod k, by simp, by intro a ha b hb; simp at hb; subst hb; intro e2; exact free (e ▸ e2 ▸ ha)⟩
    · exact h.nod k
  · intro i hi
    have e : i ≠ id := fun e => hnd.1 (e ▸ hi)
    rw [wtPut_other e]
    obtain ⟨c1, c2⟩ := h.cur i (by simp [hi])
    exact ⟨by simp [mem_rowAdd, c1], c2⟩
/-- All are entered, all is dropped: what is forced is closed. -/
theorem Inv.closed (h : Inv L L A D 0 [] F R W) (hA : ∀ z ∈ A, z ∈ F) (hD : ∀ z ∈ F, -z ∈ D) : Closed L A F := by
  refine ⟨h.sound, hA, h.cons, fun c hc => ?_⟩
  rcases h.ent c hc with h' | ⟨id, a1, a2, a3, a4, a5⟩
  · exact .inl h'
  · rcases a5 with a5 | ⟨b1, b2, b3, b4, b5, b6, b7⟩
    · exact .inl ⟨_, a1, a5⟩
    · exact .inr ⟨_, _, a1, a2, b1, fun hm => b4 (by simpa using hD _ hm), fun hm => b5 (by simpa using hD _ hm)⟩
/-- A clause all of whose literals are forced the other way round clashes. -/
theorem Inv.clashes (h : Inv L E A D x S F R W) {c : List Int} (hc : c ∈ L) (hf : ∀ y ∈ c, -y ∈ F) : Clash L A := .inr ⟨c, hc, fun y hy => h.sound _ (hf y hy)⟩
/-- A clause whose literals are forced the other way round, but for one, forces that. -/
theorem Inv.unit (h : Inv L E A D x S F R W) {c : List Int} (hc : c ∈ L) {z : Int} (hz : z ∈ c) (hf : ∀ y ∈ c, y = z ∨ -y ∈ F) : Forced L A z :=
  Forced.unit c z hc hz fun y hy hne => h.sound _ ((hf y hy).resolve_left hne)
/-- What is forced, and forced the other way round, clashes. -/
theorem Inv.both (h : Inv L E A D x S F R W) {z : Int} (hz : Forced L A z) (hn : -z ∈ F) : Clash L A := .inl ⟨z, hz, h.sound _ hn⟩
end Go.Proofs.YtahedhpffjgimaaDoor
/- How things stand in memory while clauses are closed. -/
namespace Go.Proofs.YtahedhpffjgimaaDoor
open Go.RowKit
/-- Whose a block is. -/
inductive Tag
  | recd | held | rows | forced | row (k : Int) | wait
/-- Where one waits. -/
def ptr (i : Nat) : Value := .pointer (some ⟨i, 0, none⟩)
/-- What waits at block i. -/
def WaitAt (w : World) (B i : Nat) (v : Wt) : Prop :=
  (w.cell? ⟨i, 0, none⟩ = some (.int .i64 v.one) ∧ w.frozen? ⟨i, 0, none⟩ = false) ∧ (w.cell? ⟨i, 1, none⟩ = some (.int .i64 v.two) ∧ w.frozen? ⟨i, 1, none⟩ = false) ∧
    ∃ A c, w.cell? ⟨i, 2, none⟩ = some (.slice A v.rest.length c) ∧ w.frozen? ⟨i, 2, none⟩ = false ∧ RI w B A v.rest ∧ v.rest.length ≤ c ∧ c ≤ maxLen
/-- How things stand in memory while clauses are closed: z is what there was ahead. -/
structure CSx (z : World) (sb hb rb T : Nat) (w : World) (t : Nat → Tag) (vF : Value) (nR : Nat) (vk : Int → Value) (F G : List Int) (R : Int → List Nat) (W : Nat → Wt) (I : List Nat) : Prop where
  bel : Below z.heap.size z w
  ts : t sb = .recd
  th : t hb = .held
  tr : t rb = .rows
  bs : z.heap.size ≤ sb
  bh : z.heap.size ≤ hb
  br : z.heap.size ≤ rb
  c0 : w.cell? ⟨sb, 0, none⟩ = some vF ∧ w.frozen? ⟨sb, 0, none⟩ = false
  c1 : w.cell? ⟨sb, 1, none⟩ = some (.map (some hb))
  c2 : w.cell? ⟨sb, 2, none⟩ = some (.map (some rb))
  oF : OwnI w z.heap.size vF F
  tF : ∀ g, vF.ownBlock = some g → t g = .forced
  mh : MapF w 126 .u64 hb G.length (.int .i64 0) (fun v => .int .i64 (heldF G v))
  mr : MapF w 3 .i64 rb nR (.slice none 0 0) vk
  pot : nR + (I.map (fun i => (W i).rest.length)).sum ≤ T
  oR : ∀ k, w.ownsRow z.heap.size 195 1 (vk k) (R k).length ((R k).map ptr)
  tR : ∀ k g, (vk k).ownBlock = some g → t g = .row k
  wa : ∀ i ∈ I, t i = .wait ∧ z.heap.size ≤ i ∧ WaitAt w z.heap.size i (W i)
  rI : ∀ k, ∀ i ∈ R k, i ∈ I
  rl : ∀ k, (R k).length ≤ nR
def CS (z : World) (sb hb rb T : Nat) (w : World) (vk : Int → Value) (F : List Int) (R : Int → List Nat) (W : Nat → Wt) (I : List Nat) : Prop :=
  ∃ t vF nR, CSx z sb hb rb T w t vF nR vk F F R W I
theorem MapF.congr {w : World} {k : TypeId} {q : IntKind} {b n : Nat} {z : Value} {g g' : Int → Value} (h : MapF w k q b n z g) (e : ∀ x, (Lit.int q x).wf = true → g x = g' x) : MapF w k q b n z g' := by
  obtain ⟨D, h1, h2⟩ := h
  exact ⟨D, h1, fun x hx => by rw [h2 x hx, e x hx]⟩
theorem WaitAt.kept {w w' : World} {B i : Nat} {v : Wt} {row : Option Nat} (h : WaitAt w B i v) (hg : w.grownBy w' row) (hi : some i ≠ row) (hB : ∀ g, row = some g → B ≤ g) : WaitAt w' B i v := by
  obtain ⟨⟨a1, a2⟩, ⟨b1, b2⟩, A, c, c1, c2, c3, c4, c5⟩ := h
  have hlt := World.block_lt_of_cell? w _ a1
  have fz : ∀ o, w'.frozen? ⟨i, o, none⟩ = w.frozen? ⟨i, o, none⟩ := fun o => World.frozen?_of_block (hg.block i hlt hi)
  refine ⟨⟨hg.cell a1 hi, (fz 0).trans a2⟩, ⟨hg.cell b1 hi, (fz 1).trans b2⟩, A, c, hg.cell c1 hi, (fz 2).trans c2, ?_, c4, c5⟩
  intro j hj
  obtain ⟨ad, e, h1, h2⟩ := c3 j hj
  refine ⟨ad, e, h1, hg.cell h2 ?_⟩
  intro e2
  have := hB _ e2.symm
  rw [block_add] at this
  omega
section
variable {z : World} {sb hb rb T : Nat} {w w' : World} {t : Nat → Tag} {vF : Value} {nR : Nat} {vk : Int → Value} {F G : List Int} {R : Int → List Nat} {W : Nat → Wt} {I : List Nat} {row : Option Nat}
theorem below_grown (h : Below z.heap.size z w) (hg : w.grownBy w' row) (hB : ∀ g, row = some g → z.heap.size ≤ g) : Below z.heap.size z w' := h.grown hg h.size hB
theorem CSx.rec' (h : CSx z sb hb rb T w t vF nR vk F G R W I) (hg : w.grownBy w' row) (hn : ∀ g, row = some g → t g ≠ .recd) :
    (w'.cell? ⟨sb, 0, none⟩ = some vF ∧ w'.frozen? ⟨sb, 0, none⟩ = false) ∧ w'.cell? ⟨sb, 1, none⟩ = some (.map (some hb)) ∧ w'.cell? ⟨sb, 2, none⟩ = some (.map (some rb)) := by
  have hne : some sb ≠ row := fun e => hn sb e.symm h.ts
  have hlt := World.block_lt_of_cell? w _ h.c1
  exact ⟨⟨hg.cell h.c0.1 hne, (World.frozen?_of_block (hg.block sb hlt hne)).trans h.c0.2⟩, hg.cell h.c1 hne, hg.cell h.c2 hne⟩
theorem CSx.frc' (h : CSx z sb hb rb T w t vF nR vk F G R W I) (hg : w.grownBy w' row) (hn : ∀ g, row = some g → t g ≠ .forced) : OwnI w' z.heap.size vF F := by
  refine World.ownsRow.kept h.oF hg ?_
  cases hv : vF.ownBlock with
  | none => exact .inl rfl
  | some g => exact .inr (fun e => hn g e.symm (h.tF g hv))
theorem CSx.hld' (h : CSx z sb hb rb T w t vF nR vk F G R W I) (hg : w.grownBy w' row) (hn : ∀ g, row = some g → t g ≠ .held) : MapF w' 126 .u64 hb G.length (.int .i64 0) (fun v => .int .i64 (heldF G v)) :=
  h.mh.kept hg (fun e => hn hb e.symm h.th)
theorem CSx.rws' (h : CSx z sb hb rb T w t vF nR vk F G R W I) (hg : w.grownBy w' row) (hn : ∀ g, row = some g → t g ≠ .rows) : MapF w' 3 .i64 rb nR (.slice none 0 0) vk :=
  h.mr.kept hg (fun e => hn rb e.symm h.tr)
theorem CSx.row' (h : CSx z sb hb rb T w t vF nR vk F G R W I) (hg : w.grownBy w' row) (k : Int) (hn : ∀ g, row = some g → t g ≠ .row k) : w'.ownsRow z.heap.size 195 1 (vk k) (R k).length ((R k).map ptr) := by
  refine World.ownsRow.kept (h.oR k) hg ?_
  cases hv : (vk k).ownBlock with
  | none => exact .inl rfl
  | some g => exact .inr (fun e => hn g e.symm (h.tR k g hv))
theorem CSx.wat' (h : CSx z sb hb rb T w t vF nR vk F G R W I) (hg : w.grownBy w' row) (hB : ∀ g, row = some g → z.heap.size ≤ g) (i : Nat) (hi : i ∈ I) (hn : some i ≠ row) : t i = .wait ∧ z.heap.size ≤ i ∧ WaitAt w' z.heap.size i (W i) := by
  obtain ⟨h1, h2, h3⟩ := h.wa i hi
  exact ⟨h1, h2, h3.kept hg hn hB⟩
theorem CSx.wats' (h : CSx z sb hb rb T w t vF nR vk F G R W I) (hg : w.grownBy w' row) (hB : ∀ g, row = some g → z.heap.size ≤ g) (hn : ∀ g, row = some g → t g ≠ .wait) : ∀ i ∈ I, t i = .wait ∧ z.heap.size ≤ i ∧ WaitAt w' z.heap.size i (W i) :=
  fun i hi => h.wat' hg hB i hi (fun e => hn i e.symm (h.wa i hi).1)
/-- New blocks, and draws, turn nothing. -/
theorem CSx.nx (h : CSx z sb hb rb T w t vF nR vk F G R W I) (hg : w.grownBy w' none) : CSx z sb hb rb T w' t vF nR vk F G R W I := by
  have hn : ∀ τ, ∀ g, (none : Option Nat) = some g → t g ≠ τ := fun _ g e => by cases e
  have hB : ∀ g, (none : Option Nat) = some g → z.heap.size ≤ g := fun g e => by cases e
  obtain ⟨a, b, c⟩ := h.rec' hg (hn _)
  exact ⟨below_grown h.bel hg hB, h.ts, h.th, h.tr, h.bs, h.bh, h.br, a, b, c, h.frc' hg (hn _), h.tF, h.hld' hg (hn _), h.rws' hg (hn _), h.pot, fun k => h.row' hg k (hn _), h.tR, h.wats' hg hB (hn _), h.rI, h.rl⟩
theorem CS.nx (h : CS z sb hb rb T w vk F R W I) (hg : w.grownBy w' none) : CS z sb hb rb T w' vk F R W I := by
  obtain ⟨t, vF, nR, h⟩ := h
  exact ⟨t, vF, nR, h.nx hg⟩
/-- The tags with one anew. -/
def tagPut (t : Nat → Tag) (b : Nat) (v : Tag) : Nat → Tag := fun i => if i = b then v else t i
theorem tagPut_same (t : Nat → Tag) (b : Nat) (v : Tag) : tagPut t b v b = v := by simp [tagPut]
theorem tagPut_other {t : Nat → Tag} {b i : Nat} {v : Tag} (h : i ≠ b) : tagPut t b v i = t i := by simp [tagPut, h]
theorem CSx.lts (h : CSx z sb hb rb T w t vF nR vk F G R W I) : sb < w.heap.size ∧ hb < w.heap.size ∧ rb < w.heap.size :=
  ⟨World.block_lt_of_cell? w _ h.c1, h.mh.lt, h.mr.lt⟩
/-- A block that wasn't there may be anybody's. -/
theorem CSx.retag (h : CSx z sb hb rb T w t vF nR vk F G R W I) (b : Nat) (hb' : w.heap.size ≤ b) (τ : Tag) : CSx z sb hb rb T w (tagPut t b τ) vF nR vk F G R W I := by
  obtain ⟨l1, l2, l3⟩ := h.lts
  have o : ∀ i, i < w.heap.size → tagPut t b τ i = t i := fun i hi => tagPut_other (by omega)
  refine ⟨h.bel, (o _ l1).trans h.ts, (o _ l2).trans h.th, (o _ l3).trans h.tr, h.bs, h.bh, h.br, h.c0, h.c1, h.c2, h.oF, ?_, h.mh, h.mr, h.pot, h.oR, ?_, ?_, h.rI, h.rl⟩
  · intro g hg
    rw [o g (World.ownsRow.lt h.oF g hg).2]; exact h.tF g hg
  · intro k g hg
    rw [o g (World.ownsRow.lt (h.oR k) g hg).2]; exact h.tR k g hg
  · intro i hi
    obtain ⟨a, b, c⟩ := h.wa i hi
    exact ⟨by rw [o i (World.block_lt_of_cell? w _ c.1.1)]; exact a, b, c⟩
end
theorem u64_min : IntKind.u64.min = 0 := by decide
theorem u64_max : IntKind.u64.max = 18446744073709551615 := by decide
theorem i64_min : IntKind.i64.min = -9223372036854775808 := by decide
theorem i64_max : IntKind.i64.max = 9223372036854775807 := by decide
theorem wf_u64 {v : Int} (h : (Lit.int .u64 v).wf = true) : 0 ≤ v := by
  simp [Lit.wf, u64_min] at h
  exact h.1
theorem wf_u64_mk {v : Int} (h0 : 0 ≤ v) (h1 : v ≤ 4611686018427387904) : (Lit.int .u64 v).wf = true := by
  simp [Lit.wf, u64_min, u64_max]
  omega
theorem wf_i64_mk {v : Int} (h0 : -4611686018427387904 ≤ v) (h1 : v ≤ 4611686018427387904) : (Lit.int .i64 v).wf = true := by
  simp only [Lit.wf, i64_min, i64_max, Bool.and_eq_true, decide_eq_true_eq]
  omega
end Go.Proofs.YtahedhpffjgimaaDoor
