/-
  What clauses force, as plain mathematics: the closure, when it is found, and the steps of two watched literals. No conditions.
-/
set_option linter.unusedVariables false
namespace Go.Proofs.Ytlebagdildpkmaa
/-- What is forced of clauses and literals. -/
inductive Forced (L : List (List Int)) (A : List Int) : Int → Prop
  | given (x : Int) : x ∈ A → Forced L A x
  | unit (c : List Int) (x : Int) : c ∈ L → x ∈ c → (∀ y ∈ c, y ≠ x → Forced L A (-y)) → Forced L A x
/-- They clash. -/
def Clash (L : List (List Int)) (A : List Int) : Prop := (∃ x, Forced L A x ∧ Forced L A (-x)) ∨ ∃ c ∈ L, ∀ y ∈ c, Forced L A (-y)
/-- A row that is closed. -/
structure Closed (L : List (List Int)) (A F : List Int) : Prop where
  sound : ∀ z ∈ F, Forced L A z
  has : ∀ z ∈ A, z ∈ F
  cons : ∀ z ∈ F, -z ∉ F
  each : ∀ c ∈ L, (∃ y ∈ c, y ∈ F) ∨ ∃ y z, y ∈ c ∧ z ∈ c ∧ y ≠ z ∧ -y ∉ F ∧ -z ∉ F
theorem Closed.all {L : List (List Int)} {A F : List Int} (h : Closed L A F) {x : Int} (hx : Forced L A x) : x ∈ F := by
  induction hx with
  | given x hx => exact h.has x hx
  | unit c x hc hxc _ ih =>
    rcases h.each c hc with ⟨y, hy, hyF⟩ | ⟨y, z, hy, hz, hyz, ny, nz⟩
    · by_cases e : y = x
      · exact e ▸ hyF
      · exact absurd (ih y hy e) (h.cons y hyF)
    · by_cases e : y = x
      · exact absurd (ih z hz (fun e2 => hyz (e.trans e2.symm))) nz
      · exact absurd (ih y hy e) ny
theorem Closed.mem {L : List (List Int)} {A F : List Int} (h : Closed L A F) (x : Int) : x ∈ F ↔ Forced L A x := ⟨h.sound x, h.all⟩
theorem Closed.clash {L : List (List Int)} {A F : List Int} (h : Closed L A F) : ¬ Clash L A := by
  rintro (⟨x, h1, h2⟩ | ⟨c, hc, hy⟩)
  · exact h.cons x (h.all h1) (h.all h2)
  · rcases h.each c hc with ⟨y, hyc, hyF⟩ | ⟨y, z, hyc, _, _, ny, _⟩
    · exact h.cons y hyF (h.all (hy y hyc))
    · exact ny (h.all (hy y hyc))
/-- A clause that waits: two of its literals, and what is left of it behind them. -/
structure Wt where
  one : Int
  two : Int
  rest : List Int
/-- The one that waits under a number is of a clause. -/
def Wok (D : List Int) (x : Int) (S : List Nat) (F : List Int) (R : Int → List Nat) (W : Nat → Wt) (id : Nat) (c : List Int) : Prop :=
  (W id).one ∈ c ∧ (W id).two ∈ c ∧ (∀ y ∈ (W id).rest, y ∈ c) ∧ (∀ y ∈ c, y = (W id).one ∨ y = (W id).two ∨ y ∈ (W id).rest ∨ -y ∈ F) ∧
    ((W id).one ∈ F ∨ ((W id).one ≠ (W id).two ∧ id ∈ R (W id).one ∧ id ∈ R (W id).two ∧ (W id).one ∉ D ∧ (W id).two ∉ D ∧ ((W id).one = x → id ∈ S) ∧ ((W id).two = x → id ∈ S)))
/-- How things stand: clauses E are entered, the literals D are dropped, of x those of S are still to be looked at; F is forced, R are the rows, W those that wait. -/
structure Inv (L E : List (List Int)) (A D : List Int) (x : Int) (S : List Nat) (F : List Int) (R : Int → List Nat) (W : Nat → Wt) : Prop where
  sound : ∀ z ∈ F, Forced L A z
  cons : ∀ z ∈ F, -z ∉ F
  dF : ∀ d ∈ D, -d ∈ F
  xF : S ≠ [] → -x ∈ F
  sub : ∀ c ∈ E, c ∈ L
  ent : ∀ c ∈ E, (∃ y ∈ c, y ∈ F) ∨ ∃ id, Wok D x S F R W id c
  row : ∀ k, ∀ id ∈ R k, (∃ c ∈ E, Wok D x S F R W id c) ∧ (k ∈ D ∨ (x ≠ 0 ∧ k = x) ∨ (W id).one = k ∨ (W id).two = k ∨ (W id).one ∈ F)
  nod : ∀ k, (R k).Nodup
  cur : ∀ id ∈ S, id ∈ R x ∧ ((W id).one = x ∨ (W id).two = x ∨ (W id).one ∈ F)
  nodS : S.Nodup
  fnod : F.Nodup
variable {L E : List (List Int)} {A D : List Int} {x : Int} {S : List Nat} {F : List Int} {R : Int → List Nat} {W : Nat → Wt}
theorem Inv.nz (h : Inv L E A D x S F R W) : (0 : Int) ∉ F := fun h0 => h.cons 0 h0 (by simpa using h0)
theorem Inv.first (L : List (List Int)) (A : List Int) (W : Nat → Wt) : Inv L [] A [] 0 [] [] (fun _ => []) W :=
  ⟨by simp, by simp, by simp, by simp, by simp, by simp, by simp, by simp, by simp, by simp, by simp⟩
theorem Wok.more {z : Int} {id : Nat} {c : List Int} (h : Wok D x S F R W id c) : Wok D x S (F ++ [z]) R W id c := by
  obtain ⟨h1, h2, h3, h4, h5⟩ := h
  refine ⟨h1, h2, h3, fun y hy => ?_, ?_⟩
  · rcases h4 y hy with h | h | h | h
    · exact .inl h
    · exact .inr (.inl h)
    · exact .inr (.inr (.inl h))
    · exact .inr (.inr (.inr (by simp [h])))
  · rcases h5 with h | h
    · exact .inl (by simp [h])
    · exact .inr h
/-- A literal more is forced. -/
theorem Inv.force (h : Inv L E A D x S F R W) {z : Int} (hz : Forced L A z) (z0 : z ≠ 0) (hp : z ∉ F) (hn : -z ∉ F) : Inv L E A D x S (F ++ [z]) R W := by
  refine ⟨?_, ?_, ?_, ?_, h.sub, ?_, ?_, h.nod, ?_, h.nodS, by rw [List.nodup_append]; exact ⟨h.fnod, by simp, by intro a ha b hb; simp at hb; subst hb; intro e; exact hp (e ▸ ha)⟩⟩
  · intro y hy
    rcases List.mem_append.1 hy with h' | h'
    · exact h.sound y h'
    · rw [List.mem_singleton.1 h']; exact hz
  · intro y hy hy'
    rcases List.mem_append.1 hy with h' | h' <;> rcases List.mem_append.1 hy' with h'' | h''
    · exact h.cons y h' h''
    · have e := List.mem_singleton.1 h''
      exact hn (by rw [← e]; simpa using h')
    · have e := List.mem_singleton.1 h'
      exact hn (by rw [← e]; exact h'')
    · have e := List.mem_singleton.1 h'
      have e' := List.mem_singleton.1 h''
      omega
  · intro d hd; simp [h.dF d hd]
  · intro hS; simp [h.xF hS]
  · intro c hc
    rcases h.ent c hc with ⟨y, hy, hF⟩ | ⟨id, hid⟩
    · exact .inl ⟨y, hy, by simp [hF]⟩
    · exact .inr ⟨id, hid.more⟩
  · intro k id hid
    obtain ⟨⟨c, hc, hw⟩, hk⟩ := h.row k id hid
    refine ⟨⟨c, hc, hw.more⟩, ?_⟩
    rcases hk with h' | h' | h' | h' | h'
    · exact .inl h'
    · exact .inr (.inl h')
    · exact .inr (.inr (.inl h'))
    · exact .inr (.inr (.inr (.inl h')))
    · exact .inr (.inr (.inr (.inr (by simp [h']))))
  · intro id hid
    obtain ⟨h1, h2⟩ := h.cur id hid
    refine ⟨h1, ?_⟩
    rcases h2 with h' | h' | h'
    · exact .inl h'
    · exact .inr (.inl h')
    · exact .inr (.inr (by simp [h']))
/-- A clause that has a forced literal is entered. -/
theorem Inv.enter (h : Inv L E A D x S F R W) {c : List Int} (hc : c ∈ L) {y : Int} (hy : y ∈ c) (hF : y ∈ F) : Inv L (E ++ [c]) A D x S F R W := by
  refine ⟨h.sound, h.cons, h.dF, h.xF, ?_, ?_, ?_, h.nod, h.cur, h.nodS, h.fnod⟩
  · intro d hd
    rcases List.mem_append.1 hd with h' | h'
    · exact h.sub d h'
    · rw [List.mem_singleton.1 h']; exact hc
  · intro d hd
    rcases List.mem_append.1 hd with h' | h'
    · exact h.ent d h'
    · rw [List.mem_singleton.1 h']; exact .inl ⟨y, hy, hF⟩
  · intro k id hid
    obtain ⟨⟨d, hd, hw⟩, hk⟩ := h.row k id hid
    exact ⟨⟨d, by simp [hd], hw⟩, hk⟩
/-- The rows with a number more at a literal. -/
def rowAdd (R : Int → List Nat) (k : Int) (id : Nat) : Int → List Nat := fun j => if j = k then R j ++ [id] else R j
theorem mem_rowAdd {R : Int → List Nat} {k j : Int} {id i : Nat} : i ∈ rowAdd R k id j ↔ i ∈ R j ∨ (j = k ∧ i = id) := by
  unfold rowAdd; split <;> simp_all
/-- Those that wait, one of them anew. -/
def wtPut (W : Nat → Wt) (id : Nat) (v : Wt) : Nat → Wt := fun i => if i = id then v else W i
theorem wtPut_same (W : Nat → Wt) (id : Nat) (v : Wt) : wtPut W id v id = v := by simp [wtPut]
theorem wtPut_other {W : Nat → Wt} {id i : Nat} {v : Wt} (h : i ≠ id) : wtPut W id v i = W i := by simp [wtPut, h]
/-- A clause of which two literals aren't forced the other way round waits for them. -/
theorem Inv.wait (h : Inv L E A [] 0 [] F R W) {c : List Int} (hc : c ∈ L) (c0 : (0 : Int) ∉ c) {one two : Int} {rest : List Int} (h1 : one ∈ c) (h2 : two ∈ c) (hne : one ≠ two) (hr : ∀ y ∈ rest, y ∈ c) (hcov : ∀ y ∈ c, y = one ∨ y = two ∨ y ∈ rest ∨ -y ∈ F) {id : Nat} (hid : ∀ k, id ∉ R k) :
    Inv L (E ++ [c]) A [] 0 [] F (rowAdd (rowAdd R one id) two id) (wtPut W id ⟨one, two, rest⟩) := by
  have hent : ∀ d ∈ E, Wok [] 0 [] F R W id d → ∃ y ∈ d, y ∈ F := by
    rintro d _ ⟨a1, _, _, _, a5⟩
    rcases a5 with a5 | ⟨_, b2, _⟩
    · exact ⟨_, a1, a5⟩
    · exact absurd b2 (hid _)
  have keep : ∀ i d, i ≠ id → Wok [] 0 [] F R W i d → Wok [] 0 [] F (rowAdd (rowAdd R one id) two id) (wtPut W id ⟨one, two, rest⟩) i d := by
    intro i d hi hw
    unfold Wok at *
    rw [wtPut_other hi]
    obtain ⟨a1, a2, a3, a4, a5⟩ := hw
    refine ⟨a1, a2, a3, a4, ?_⟩
    rcases a5 with a5 | ⟨b1, b2, b3, b4, b5, b6, b7⟩
    · exact .inl a5
    · exact .inr ⟨b1, by simp [mem_rowAdd, b2], by simp [mem_rowAdd, b3], b4, b5, b6, b7⟩
  have own : Wok [] 0 [] F (rowAdd (rowAdd R one id) two id) (wtPut W id ⟨one, two, rest⟩) id c := by
    unfold Wok
    rw [wtPut_same]
    refine ⟨h1, h2, hr, hcov, .inr ⟨hne, by simp [mem_rowAdd], by simp [mem_rowAdd], by simp, by simp, ?_, ?_⟩⟩
    · intro e; exact absurd (e ▸ h1) c0
    · intro e; exact absurd (e ▸ h2) c0
  refine ⟨h.sound, h.cons, h.dF, h.xF, ?_, ?_, ?_, ?_, by simp, by simp, h.fnod⟩
  · intro d hd
    rcases List.mem_append.1 hd with h' | h'
    · exact h.sub d h'
    · rw [List.mem_singleton.1 h']; exact hc
  · intro d hd
    rcases List.mem_append.1 hd with h' | h'
    · rcases h.ent d h' with h'' | ⟨i, hi⟩
      · exact .inl h''
      · by_cases e : i = id
        · subst e; exact .inl (hent d h' hi)
        · exact .inr ⟨i, keep i d e hi⟩
    · rw [List.mem_singleton.1 h']; exact .inr ⟨id, own⟩
  · intro k i hi
    by_cases e : i = id
    · subst e
      refine ⟨⟨c, by simp, own⟩, ?_⟩
      rw [wtPut_same]
      rcases mem_rowAdd.1 hi with h' | ⟨h', _⟩
      · rcases mem_rowAdd.1 h' with h'' | ⟨h'', _⟩
        · exact absurd h'' (hid k)
        · exact .inr (.inr (.inl h''.symm))
      · exact .inr (.inr (.inr (.inl h'.symm)))
    · have hk : i ∈ R k := by
        rcases mem_rowAdd.1 hi with h' | ⟨_, h'⟩
        · rcases mem_rowAdd.1 h' with h'' | ⟨_, h''⟩
          · exact h''
          · exact absurd h'' e
        · exact absurd h' e
      obtain ⟨⟨d, hd, hw⟩, hkk⟩ := h.row k i hk
      refine ⟨⟨d, by simp [hd], keep i d e hw⟩, ?_⟩
      rw [wtPut_other e]; exact hkk
  · intro k
    have hn := h.nod k
    have hid' := hid k
    unfold rowAdd
    by_cases e2 : k = two
    · by_cases e1 : k = one
      · exact absurd (e1.symm.trans e2) hne
      · rw [if_pos e2, if_neg e1]
        rw [List.nodup_append]
        exact ⟨hn, by simp, by intro a ha b hb; simp at hb; subst hb; intro e; exact hid' (e ▸ ha)⟩
    · rw [if_neg e2]
      by_cases e1 : k = one
      · rw [if_pos e1]
        rw [List.nodup_append]
        exact ⟨hn, by simp, by intro a ha b hb; simp at hb; subst hb; intro e; exact hid' (e ▸ ha)⟩
      · rw [if_neg e1]; exact hn
/-- A literal begins to be dropped. -/
theorem Inv.begin (h : Inv L E A D 0 [] F R W) (hx : -x ∈ F) (hD : x ∉ D) : Inv L E A D x (R x) F R W := by
  have x0 : x ≠ 0 := by intro e; subst e; exact h.nz (by simpa using hx)
  have key : ∀ i d, Wok D 0 [] F R W i d → Wok D x (R x) F R W i d := by
    intro i d hw
    obtain ⟨a1, a2, a3, a4, a5⟩ := hw
    refine ⟨a1, a2, a3, a4, ?_⟩
    rcases a5 with a5 | ⟨b1, b2, b3, b4, b5, b6, b7⟩
    · exact .inl a5
    · exact .inr ⟨b1, b2, b3, b4, b5, fun e => e ▸ b2, fun e => e ▸ b3⟩
  refine ⟨h.sound, h.cons, h.dF, fun _ => hx, h.sub, ?_, ?_, h.nod, ?_, h.nod x, h.fnod⟩
  · intro c hc
    rcases h.ent c hc with h' | ⟨i, hi⟩
    · exact .inl h'
    · exact .inr ⟨i, key i c hi⟩
  · intro k i hi
    obtain ⟨⟨d, hd, hw⟩, hk⟩ := h.row k i hi
    refine ⟨⟨d, hd, key i d hw⟩, ?_⟩
    obtain ⟨a1, a2, a3, a4, a5⟩ := hw
    rcases hk with h' | h' | h' | h' | h'
    · exact .inl h'
    · exact absurd rfl h'.1
    · exact .inr (.inr (.inl h'))
    · exact .inr (.inr (.inr (.inl h')))
    · exact .inr (.inr (.inr (.inr h')))
  · intro i hi
    refine ⟨hi, ?_⟩
    obtain ⟨_, hk⟩ := h.row x i hi
    rcases hk with h' | h' | h' | h' | h'
    · exact absurd h' hD
    · exact absurd rfl h'.1
    · exact .inl h'
    · exact .inr (.inl h')
    · exact .inr (.inr h')
/-- A literal is dropped. -/
theorem Inv.done (h : Inv L E A D x [] F R W) (hx : -x ∈ F) (c0 : ∀ c ∈ L, (0 : Int) ∉ c) : Inv L E A (D ++ [x]) 0 [] F R W := by
  have key : ∀ i, ∀ d ∈ E, Wok D x [] F R W i d → Wok (D ++ [x]) 0 [] F R W i d := by
    intro i d hd hw
    obtain ⟨a1, a2, a3, a4, a5⟩ := hw
    refine ⟨a1, a2, a3, a4, ?_⟩
    rcases a5 with a5 | ⟨b1, b2, b3, b4, b5, b6, b7⟩
    · exact .inl a5
    · refine .inr ⟨b1, b2, b3, ?_, ?_, ?_, ?_⟩
      · intro hm
        rcases List.mem_append.1 hm with h' | h'
        · exact b4 h'
        · exact absurd (b6 (List.mem_singleton.1 h')) (by simp)
      · intro hm
        rcases List.mem_append.1 hm with h' | h'
        · exact b5 h'
        · exact absurd (b7 (List.mem_singleton.1 h')) (by simp)
      · intro e; exact absurd (e ▸ a1) (c0 d (h.sub d hd))
      · intro e; exact absurd (e ▸ a2) (c0 d (h.sub d hd))
  refine ⟨h.sound, h.cons, ?_, by simp, h.sub, ?_, ?_, h.nod, by simp, by simp, h.fnod⟩
  · intro d hd
    rcases List.mem_append.1 hd with h' | h'
    · exact h.dF d h'
    · rw [List.mem_singleton.1 h']; exact hx
  · intro c hc
    rcases h.ent c hc with h' | ⟨i, hi⟩
    · exact .inl h'
    · exact .inr ⟨i, key i c hc hi⟩
  · intro k i hi
    obtain ⟨⟨d, hd, hw⟩, hk⟩ := h.row k i hi
    refine ⟨⟨d, hd, key i d hd hw⟩, ?_⟩
    rcases hk with h' | ⟨_, h'⟩ | h'
    · exact .inl (by simp [h'])
    · exact .inl (by simp [h'])
    · exact .inr (.inr h')
/-- The literal that is left to look at, of one that waits. -/
def other (x : Int) (v : Wt) : Int := if v.one = x then v.two else v.one
/-- One that waits has a forced literal. -/
theorem Inv.skip {id : Nat} (h : Inv L E A D x (id :: S) F R W) (ht : other x (W id) ∈ F) : Inv L E A D x S F R (wtPut W id ⟨other x (W id), (W id).two, (W id).rest⟩) := by
  have hxF := h.xF (by simp)
  have hnd := h.nodS
  rw [List.nodup_cons] at hnd
  have keep : ∀ i d, i ≠ id → Wok D x (id :: S) F R W i d → Wok D x S F R (wtPut W id ⟨other x (W id), (W id).two, (W id).rest⟩) i d := by
    intro i d hi hw
    unfold Wok at *
    rw [wtPut_other hi]
    obtain ⟨a1, a2, a3, a4, a5⟩ := hw
    refine ⟨a1, a2, a3, a4, ?_⟩
    rcases a5 with a5 | ⟨b1, b2, b3, b4, b5, b6, b7⟩
    · exact .inl a5
    · refine .inr ⟨b1, b2, b3, b4, b5, fun e => ?_, fun e => ?_⟩
      · rcases List.mem_cons.1 (b6 e) with h' | h'
        · exact absurd h' hi
        · exact h'
      · rcases List.mem_cons.1 (b7 e) with h' | h'
        · exact absurd h' hi
        · exact h'
  have own : ∀ d, Wok D x (id :: S) F R W id d → Wok D x S F R (wtPut W id ⟨other x (W id), (W id).two, (W id).rest⟩) id d := by
    intro d hw
    unfold Wok at *
    rw [wtPut_same]
    obtain ⟨a1, a2, a3, a4, a5⟩ := hw
    refine ⟨?_, a2, a3, ?_, .inl ht⟩
    · simp only [other]; split
      · exact a2
      · exact a1
    · intro y hy
      rcases a4 y hy with h' | h' | h' | h'
      · by_cases e : (W id).one = x
        · exact .inr (.inr (.inr (by rw [h', e]; exact hxF)))
        · refine .inl ?_
          simp only [other]; rw [if_neg e]; exact h'
      · exact .inr (.inl h')
      · exact .inr (.inr (.inl h'))
      · exact .inr (.inr (.inr h'))
  have all : ∀ i d, Wok D x (id :: S) F R W i d → Wok D x S F R (wtPut W id ⟨other x (W id), (W id).two, (W id).rest⟩) i d := by
    intro i d hw
    by_cases e : i = id
    · subst e; exact own d hw
    · exact keep i d e hw
  refine ⟨h.sound, h.cons, h.dF, fun _ => hxF, h.sub, ?_, ?_, h.nod, ?_, hnd.2, h.fnod⟩
  · intro c hc
    rcases h.ent c hc with h' | ⟨i, hi⟩
    · exact .inl h'
    · exact .inr ⟨i, all i c hi⟩
  · intro k i hi
    obtain ⟨⟨d, hd, hw⟩, hk⟩ := h.row k i hi
    refine ⟨⟨d, hd, all i d hw⟩, ?_⟩
    by_cases e : i = id
    · subst e; rw [wtPut_same]; exact .inr (.inr (.inr (.inr ht)))
    · rw [wtPut_other e]; exact hk
  · intro i hi
    have e : i ≠ id := fun e => hnd.1 (e ▸ hi)
    rw [wtPut_other e]
    exact h.cur i (by simp [hi])
/-- Of one that waits, and isn't done, the two literals are x and the other one. -/
theorem Inv.pair {id : Nat} (h : Inv L E A D x (id :: S) F R W) (ht : other x (W id) ∉ F) : (W id).one ∉ F ∧ (((W id).one = x ∧ other x (W id) = (W id).two) ∨ ((W id).one ≠ x ∧ (W id).two = x ∧ other x (W id) = (W id).one)) := by
  have hxF := h.xF (by simp)
  have hx : x ∉ F := by
    intro hx
    exact h.cons (-x) hxF (by simpa using hx)
  obtain ⟨_, hk⟩ := h.cur id (by simp)
  by_cases e : (W id).one = x
  · exact ⟨e ▸ hx, .inl ⟨e, by simp [other, e]⟩⟩
  · have eo : other x (W id) = (W id).one := by simp [other, e]
    rw [eo] at ht
    refine ⟨ht, .inr ⟨e, ?_, eo⟩⟩
    rcases hk with h' | h' | h'
    · exact absurd h' e
    · exact h'
    · exact absurd h' ht
/-- All that is left of it is forced the other way round: the other one is forced. -/
theorem Inv.only {id : Nat} (h : Inv L E A D x (id :: S) F R W) (ht : other x (W id) ∉ F) (hr : ∀ y ∈ (W id).rest, y = other x (W id) ∨ -y ∈ F) : Forced L A (other x (W id)) := by
  have hxF := h.xF (by simp)
  obtain ⟨h1, hp⟩ := h.pair ht
  obtain ⟨⟨c, hc, hw⟩, _⟩ := h.row x id (h.cur id (by simp)).1
  obtain ⟨a1, a2, a3, a4, a5⟩ := hw
  refine Forced.unit c _ (h.sub c hc) ?_ ?_
  · rcases hp with ⟨_, e⟩ | ⟨_, _, e⟩ <;> rw [e] <;> assumption
  · intro y hy hne
    refine h.sound _ ?_
    rcases a4 y hy with h' | h' | h' | h'
    · rcases hp with ⟨e1, e⟩ | ⟨_, _, e⟩
      · rw [h', e1]; exact hxF
      · exact absurd (h'.trans e.symm) hne
    · rcases hp with ⟨e1, e⟩ | ⟨_, e2, e⟩
      · exact absurd (h'.trans e.symm) hne
      · rw [h', e2]; exact hxF
    · rcases hr y h' with h'' | h''
      · exact absurd h'' hne
      · exact h''
    · exact h'
/-- Another literal is found to wait for. -/
theorem Inv.move {id : Nat} (h : Inv L E A D x (id :: S) F R W) (ht : other x (W id) ∉ F) {pre post : List Int} {y : Int} (hr : (W id).rest = pre ++ y :: post) (hpre : ∀ z ∈ pre, z = other x (W id) ∨ -z ∈ F) (hy : y ≠ other x (W id)) (hyF : -y ∉ F) :
    Inv L E A D x S F (rowAdd R y id) (wtPut W id ⟨other x (W id), y, post⟩) := by
  have hxF := h.xF (by simp)
  have hnd := h.nodS
  rw [List.nodup_cons] at hnd
  obtain ⟨h1, hp⟩ := h.pair ht
  have hyx : y ≠ x := by intro e; subst e; exact hyF hxF
  have hyD : y ∉ D := fun hd => hyF (h.dF y hd)
  have keep : ∀ i d, i ≠ id → Wok D x (id :: S) F R W i d → Wok D x S F (rowAdd R y id) (wtPut W id ⟨other x (W id), y, post⟩) i d := by
    intro i d hi hw
    unfold Wok at *
    rw [wtPut_other hi]
    obtain ⟨a1, a2, a3, a4, a5⟩ := hw
    refine ⟨a1, a2, a3, a4, ?_⟩
    rcases a5 with a5 | ⟨b1, b2, b3, b4, b5, b6, b7⟩
    · exact .inl a5
    · refine .inr ⟨b1, by simp [mem_rowAdd, b2], by simp [mem_rowAdd, b3], b4, b5, fun e => ?_, fun e => ?_⟩
      · rcases List.mem_cons.1 (b6 e) with h' | h'
        · exact absurd h' hi
        · exact h'
      · rcases List.mem_cons.1 (b7 e) with h' | h'
        · exact absurd h' hi
        · exact h'
  have own : ∀ d, Wok D x (id :: S) F R W id d → Wok D x S F (rowAdd R y id) (wtPut W id ⟨other x (W id), y, post⟩) id d := by
    intro d hw
    unfold Wok at *
    rw [wtPut_same]
    obtain ⟨a1, a2, a3, a4, a5⟩ := hw
    have hyr : y ∈ (W id).rest := by rw [hr]; simp
    rcases a5 with a5 | ⟨b1, b2, b3, b4, b5, b6, b7⟩
    · exact absurd a5 h1
    refine ⟨?_, a3 y hyr, fun z hz => a3 z (by rw [hr]; simp [hz]), ?_, .inr ⟨Ne.symm hy, ?_, by simp [mem_rowAdd], ?_, hyD, ?_, fun e => absurd e hyx⟩⟩
    · rcases hp with ⟨_, e⟩ | ⟨_, _, e⟩ <;> rw [e] <;> assumption
    · intro z hz
      rcases a4 z hz with h' | h' | h' | h'
      · rcases hp with ⟨e1, e⟩ | ⟨_, _, e⟩
        · exact .inr (.inr (.inr (by rw [h', e1]; exact hxF)))
        · exact .inl (h'.trans e.symm)
      · rcases hp with ⟨_, e⟩ | ⟨_, e2, e⟩
        · exact .inl (h'.trans e.symm)
        · exact .inr (.inr (.inr (by rw [h', e2]; exact hxF)))
      · rw [hr] at h'
        rcases List.mem_append.1 h' with h'' | h''
        · rcases hpre z h'' with h3 | h3
          · exact .inl h3
          · exact .inr (.inr (.inr h3))
        · rcases List.mem_cons.1 h'' with h3 | h3
          · exact .inr (.inl h3)
          · exact .inr (.inr (.inl h3))
      · exact .inr (.inr (.inr h'))
    · rw [mem_rowAdd]
      rcases hp with ⟨_, e⟩ | ⟨_, _, e⟩ <;> rw [e]
      · exact .inl b3
      · exact .inl b2
    · rcases hp with ⟨_, e⟩ | ⟨_, _, e⟩ <;> rw [e] <;> assumption
    · intro e3
      rcases hp with ⟨e1, e⟩ | ⟨e1, _, e⟩
      · exact absurd (e1.trans (e3.symm.trans e)) b1
      · exact absurd (e.symm.trans e3) e1
  have all : ∀ i d, Wok D x (id :: S) F R W i d → Wok D x S F (rowAdd R y id) (wtPut W id ⟨other x (W id), y, post⟩) i d := by
    intro i d hw
    by_cases e : i = id
    · subst e; exact own d hw
    · exact keep i d e hw
  have free : id ∉ R y := by
    intro hm
    obtain ⟨_, hk⟩ := h.row y id hm
    rcases hk with h' | ⟨_, h'⟩ | h' | h' | h'
    · exact hyD h'
    · exact hyx h'
    · rcases hp with ⟨e1, _⟩ | ⟨_, _, e⟩
      · exact hyx (h'.symm.trans e1)
      · exact hy (h'.symm.trans e.symm)
    · rcases hp with ⟨_, e⟩ | ⟨_, e2, _⟩
      · exact hy (h'.symm.trans e.symm)
      · exact hyx (h'.symm.trans e2)
    · exact h1 h'
  have x0 : x ≠ 0 := by intro e; subst e; exact h.nz (by simpa using hxF)
  refine ⟨h.sound, h.cons, h.dF, fun _ => hxF, h.sub, ?_, ?_, ?_, ?_, hnd.2, h.fnod⟩
  · intro c hc
    rcases h.ent c hc with h' | ⟨i, hi⟩
    · exact .inl h'
    · exact .inr ⟨i, all i c hi⟩
  · intro k i hi
    by_cases e : i = id
    · subst e
      obtain ⟨⟨d, hd, hw⟩, _⟩ := h.row x i (h.cur i (by simp)).1
      refine ⟨⟨d, hd, all i d hw⟩, ?_⟩
      rw [wtPut_same]
      rcases mem_rowAdd.1 hi with h' | ⟨h', _⟩
      · obtain ⟨_, hk⟩ := h.row k i h'
        rcases hk with h' | h' | h' | h' | h'
        · exact .inl h'
        · exact .inr (.inl h')
        · rcases hp with ⟨e1, _⟩ | ⟨_, _, e⟩
          · exact .inr (.inl ⟨x0, h'.symm.trans e1⟩)
          · exact .inr (.inr (.inl (e.trans h')))
        · rcases hp with ⟨_, e⟩ | ⟨_, e2, _⟩
          · exact .inr (.inr (.inl (e.trans h')))
          · exact .inr (.inl ⟨x0, h'.symm.trans e2⟩)
        · exact absurd h' h1
      · exact .inr (.inr (.inr (.inl h'.symm)))
    · have hk0 : i ∈ R k := by
        rcases mem_rowAdd.1 hi with h' | ⟨_, h'⟩
        · exact h'
        · exact absurd h' e
      obtain ⟨⟨d, hd, hw⟩, hk⟩ := h.row k i hk0
      refine ⟨⟨d, hd, all i d hw⟩, ?_⟩
      rw [wtPut_other e]; exact hk
  · intro k
    unfold rowAdd
    split
    · rename_i e
      rw [List.nodup_append]
      exact ⟨h.nod k, by simp, by intro a ha b hb; simp at hb; subst hb; intro e2; exact free (e ▸ e2 ▸ ha)⟩
    · exact h.nod k
  · intro i hi
    have e : i ≠ id := fun e => hnd.1 (e ▸ hi)
    rw [wtPut_other e]
    obtain ⟨c1, c2⟩ := h.cur i (by simp [hi])
    exact ⟨by simp [mem_rowAdd, c1], c2⟩
/-- All are entered, all is dropped: what is forced is closed. -/
theorem Inv.closed (h : Inv L L A D 0 [] F R W) (hA : ∀ z ∈ A, z ∈ F) (hD : ∀ z ∈ F, -z ∈ D) : Closed L A F := by
  refine ⟨h.sound, hA, h.cons, fun c hc => ?_⟩
  rcases h.ent c hc with h' | ⟨id, a1, a2, a3, a4, a5⟩
  · exact .inl h'
  · rcases a5 with a5 | ⟨b1, b2, b3, b4, b5, b6, b7⟩
    · exact .inl ⟨_, a1, a5⟩
    · exact .inr ⟨_, _, a1, a2, b1, fun hm => b4 (by simpa using hD _ hm), fun hm => b5 (by simpa using hD _ hm)⟩
/-- A clause all of whose literals are forced the other way round clashes. -/
theorem Inv.clashes (h : Inv L E A D x S F R W) {c : List Int} (hc : c ∈ L) (hf : ∀ y ∈ c, -y ∈ F) : Clash L A := .inr ⟨c, hc, fun y hy => h.sound _ (hf y hy)⟩
/-- A clause whose literals are forced the other way round, but for one, forces that. -/
theorem Inv.unit (h : Inv L E A D x S F R W) {c : List Int} (hc : c ∈ L) {z : Int} (hz : z ∈ c) (hf : ∀ y ∈ c, y = z ∨ -y ∈ F) : Forced L A z :=
  Forced.unit c z hc hz fun y hy hne => h.sound _ ((hf y hy).resolve_left hne)
/-- What is forced, and forced the other way round, clashes. -/
theorem Inv.both (h : Inv L E A D x S F R W) {z : Int} (hz : Forced L A z) (hn : -z ∈ F) : Clash L A := .inl ⟨z, hz, h.sound _ hn⟩
end Go.Proofs.Ytlebagdildpkmaa
