/-
  Rows of steps of one's own whose clauses lie in older memory.
  DrupKept, walked.
-/
import Derived.Test.YtahedhpffjgimaaDoorProg
import Derived.WalkKit
import Derived.WalkSpells
import Derived.WalkLawsBesides
import Derived.Lib.Hide
import Derived.BigQuiet
import Derived.Deep.QuietTactic
import Derived.Deep.RegionWith
import Derived.Deep.RegionHeld3
import Derived.Test.YtahedhpffjgimaaDoorQ21
set_option linter.unusedVariables false
/- Rows of steps of one's own whose clauses lie in older memory. -/
namespace Go.Proofs.YtahedhpffjgimaaDoor
open Go.RowKit
open Go.Lib Go.Sort
/-- A row of steps that a call made for itself; the clauses lie in older blocks. -/
def OwnE (w : World) (base : Nat) (v : Value) (P : List Stp) : Prop :=
  ∃ vs : List Value, w.ownsRow base 54 2 v P.length vs ∧ (∀ u ∈ vs, u.oneCell' = true) ∧ ∀ i, i < P.length → vs[i * 2]? = some (.bool (P.getD i (true, [])).1) ∧ ∃ A' c', vs[i * 2 + 1]? = some (.slice A' (P.getD i (true, [])).2.length c') ∧ RI w base A' (P.getD i (true, [])).2 ∧ (P.getD i (true, [])).2.length ≤ c' ∧ c' ≤ maxLen
theorem OwnE.val {w : World} {base : Nat} {v : Value} {P : List Stp} (h : OwnE w base v P) (hb : base ≤ w.heap.size) : ∃ (A : Option Addr) (c : Nat), v = .slice A P.length c ∧ RS w w.heap.size A P := by
  obtain ⟨vs, ho, _, hx⟩ := h
  rcases ho.2 with ⟨rfl, h0⟩ | ⟨g, cap, cur, rfl, hg, hh, h1, h2, h3, h4⟩
  · exact ⟨none, 0, by rw [h0], fun i hi => by omega⟩
  · refine ⟨_, cap, rfl, fun i hi => ?_⟩
    obtain ⟨e0, A', c', e, hr, q1, q2⟩ := hx i hi
    refine ⟨_, A', c', rfl, (World.ownsRow.lt ho g rfl).2, ?_, ?_, hr.mono hb, q1, q2⟩
    · rw [add_loc, World.ownsRow.cellAt ho (i * 2) (by omega)]; exact e0
    · rw [add_loc]
      show w.cell? ⟨g, i * 2 + 1, none⟩ = _
      rw [World.ownsRow.cellAt ho (i * 2 + 1) (by omega)]; exact e
theorem OwnE.old {w w' : World} {base : Nat} {v : Value} {P : List Stp} (h : OwnE w base v P) (hb : Below w.heap.size w w') (hbs : base ≤ w.heap.size) : OwnE w' base v P := by
  obtain ⟨vs, ho, hone, hx⟩ := h
  refine ⟨vs, ?_, hone, fun i hi => ?_⟩
  · refine World.ownsRow.kept ho (row := none) ⟨hb.os, hb.tape, hb.output, hb.size, fun k hk _ => hb.block k hk⟩ ?_
    cases hv : v.ownBlock with
    | none => exact .inl rfl
    | some k => exact .inr (by simp)
  · obtain ⟨e0, A', c', e, hr, q⟩ := hx i hi
    exact ⟨e0, A', c', e, hr.below (hb.mono hbs), q⟩
/-- The cells of steps, as they lie. -/
theorem RS.vals {w : World} {B : Nat} {A : Option Addr} {P : List Stp} (h : RS w B A P) :
    ∃ vs : List Value, vs.length = P.length * 2 ∧ (∀ u ∈ vs, u.oneCell' = true) ∧ (∀ j, j < P.length * 2 → ∃ ad, A = some ad ∧ w.cell? (ad.add j) = vs[j]?) ∧
      ∀ i, i < P.length → vs[i * 2]? = some (.bool (P.getD i (true, [])).1) ∧ ∃ A' c', vs[i * 2 + 1]? = some (.slice A' (P.getD i (true, [])).2.length c') ∧ RI w B A' (P.getD i (true, [])).2 ∧ (P.getD i (true, [])).2.length ≤ c' ∧ c' ≤ maxLen := by
  have hV : ∀ i, i < P.length → ∃ v : Value, ∃ ad A' c', A = some ad ∧ w.cell? (ad.add (i * 2)) = some (.bool (P.getD i (true, [])).1) ∧ w.cell? (ad.add (i * 2 + 1)) = some v ∧ v = .slice A' (P.getD i (true, [])).2.length c' ∧ RI w B A' (P.getD i (true, [])).2 ∧ (P.getD i (true, [])).2.length ≤ c' ∧ c' ≤ maxLen := by
    intro i hi
    obtain ⟨ad, A', c', e, _, hc0, hc1, hr, h1, h2⟩ := h i hi
    exact ⟨_, ad, A', c', e, hc0, by rw [add_one]; exact hc1, rfl, hr, h1, h2⟩
  obtain ⟨F, hF⟩ : ∃ F : Nat → Value, ∀ i, i < P.length → ∃ ad A' c', A = some ad ∧ w.cell? (ad.add (i * 2)) = some (.bool (P.getD i (true, [])).1) ∧ w.cell? (ad.add (i * 2 + 1)) = some (F i) ∧ F i = .slice A' (P.getD i (true, [])).2.length c' ∧ RI w B A' (P.getD i (true, [])).2 ∧ (P.getD i (true, [])).2.length ≤ c' ∧ c' ≤ maxLen := by
    refine ⟨fun i => if h : i < P.length then Classical.choose (hV i h) else .slice none 0 0, fun i hi => ?_⟩
    simp only [dif_pos hi]
    exact Classical.choose_spec (hV i hi)
  let G : Nat → Value := fun j => if j % 2 = 0 then .bool (P.getD (j / 2) (true, [])).1 else F (j / 2)
  have hg : ∀ j, j < P.length * 2 → ((List.range (P.length * 2)).map G)[j]? = some (G j) := fun j hj => by simp [hj]
  have g0 : ∀ i, G (i * 2) = .bool (P.getD i (true, [])).1 := fun i => by
    show (if (i * 2) % 2 = 0 then _ else _) = _
    rw [if_pos (by omega), show i * 2 / 2 = i by omega]
  have g1 : ∀ i, G (i * 2 + 1) = F i := fun i => by
    show (if (i * 2 + 1) % 2 = 0 then _ else _) = _
    rw [if_neg (by omega), show (i * 2 + 1) / 2 = i by omega]
  refine ⟨(List.range (P.length * 2)).map G, by simp, ?_, fun j hj => ?_, fun i hi => ?_⟩
  · intro u hu
    obtain ⟨j, hj, rfl⟩ := List.mem_map.1 hu
    have hj2 : j < P.length * 2 := by simpa using hj
    rcases Nat.mod_two_eq_zero_or_one j with hm | hm
    · rw [show j = j / 2 * 2 by omega, g0]; rfl
    · rw [show j = j / 2 * 2 + 1 by omega, g1]
      obtain ⟨ad, A', c', _, _, _, e, _⟩ := hF (j / 2) (by omega)
      rw [e]; rfl
  · rw [hg j hj]
    obtain ⟨ad, A', c', e, hc0, hc1, _⟩ := hF (j / 2) (by omega)
    refine ⟨ad, e, ?_⟩
    rcases Nat.mod_two_eq_zero_or_one j with hm | hm
    · rw [show j = j / 2 * 2 by omega, g0, hc0]
    · rw [show j = j / 2 * 2 + 1 by omega, g1, hc1]
  · obtain ⟨ad, A', c', e, hc0, hc1, ev, hr, h1, h2⟩ := hF i hi
    exact ⟨by rw [hg _ (by omega), g0], A', c', by rw [hg _ (by omega), g1, ev], hr, h1, h2⟩
theorem getD_l {P Q : List Stp} {i : Nat} (h : i < P.length) : (P ++ Q).getD i (true, []) = P.getD i (true, []) := by simp [List.getD_eq_getElem?_getD, List.getElem?_append_left h]
theorem getD_r {P Q : List Stp} {i : Nat} (h : P.length ≤ i) : (P ++ Q).getD i (true, []) = Q.getD (i - P.length) (true, []) := by simp [List.getD_eq_getElem?_getD, List.getElem?_append_right h]
/-- 'append(s, t...)', of rows of steps. -/
theorem wpEs {z w : World} {ops : Array Oper} {rest : List Oper} {o : Oper} {a : Act} {Q : Exit → Act → World → Prop} (hgd : o.guard = none) (s x : Operand)
    (ho : o.op = .call { callee := .builtin .append, args := #[s, x], argTypes := #[34, 34] })
    (v : Value) (L : List Stp) (hs : a.eval s = v) (hown : OwnE w z.heap.size v L) (A : Option Addr) (k : Nat) (M : List Stp) (hx : a.eval x = .slice A M.length k) (hr : RS z z.heap.size A M) (hA : A = none → k = 0) (hb : Below z.heap.size z w)
    (hsz : L.length ≤ 100000) (hsm : M.length ≤ 100000)
    (h : ∀ v' w', OwnE w' z.heap.size v' (L ++ M) → Below z.heap.size z w' → wpList Tryd.prog ops Q rest (a.put o.dst v') w') : wpList Tryd.prog ops Q (o :: rest) a w := by
  obtain ⟨i0, hi0, hz0, hz1, hz2⟩ := info_parts stp_info
  have hbs := hb.size
  obtain ⟨vs, how, hone, hxs⟩ := hown
  have hl : vs.length = L.length * 2 := how.1
  obtain ⟨us, hul, huo, huc, hux⟩ := (hr.below hb).vals
  cases A with
  | none =>
    have h0 : M = [] := by
      cases M with
      | nil => rfl
      | cons x l => obtain ⟨ad, e, _⟩ := huc 0 (by simp); cases e
    subst h0
    have hk := hA rfl
    subst hk
    refine wpList_append_own_none hgd s x 34 ho z.heap.size 54 i0 2 Tryd.underlying34 hi0 v L.length vs hs how hx ?_
    exact h v w (by simpa using ⟨vs, how, hone, hxs⟩) hb
  | some ad =>
    refine wpList_append_own _ hgd s x 34 ho z.heap.size 54 i0 (.agg #[.bool false, .slice none 0 0]) 2 32 Tryd.underlying34 hi0 hz0 hz1 hz2 rfl (by omega) v L.length vs hs how ad M.length k us hx (by simpa using hul) ?_ huo (by unfold maxLen; omega) (by omega) hbs ?_
    · intro j u hj
      have hjl : j < M.length * 2 := by
        have := (List.getElem?_eq_some_iff.1 hj).1
        omega
      obtain ⟨ad', e, hc⟩ := huc j hjl
      cases e
      rw [hc, hj]
    · intro v' w' hown' hg _
      have hb' := hb.grown hg hbs (fun k hk => ((World.ownsRow.lt how) k hk).1)
      refine h v' w' ⟨vs ++ us, by simpa using hown', ?_, ?_⟩ hb'
      · intro u hu
        rcases List.mem_append.1 hu with h1 | h1
        · exact hone u h1
        · exact huo u h1
      · intro i hi
        by_cases hil : i < L.length
        · obtain ⟨e0, A', c', e, hri, q⟩ := hxs i hil
          rw [getD_l hil]
          refine ⟨by rw [List.getElem?_append_left (by omega)]; exact e0, A', c', by rw [List.getElem?_append_left (by omega)]; exact e, ?_, q⟩
          exact (hri.back hb).below hb'
        · have hi' : i < L.length + M.length := by simpa using hi
          obtain ⟨e0, A', c', e, hri, q⟩ := hux (i - L.length) (by omega)
          rw [getD_r (by omega)]
          refine ⟨by rw [List.getElem?_append_right (by omega), hl, show i * 2 - L.length * 2 = (i - L.length) * 2 by omega]; exact e0, A', c', by rw [List.getElem?_append_right (by omega), hl, show i * 2 + 1 - L.length * 2 = (i - L.length) * 2 + 1 by omega]; exact e, ?_, q⟩
          exact (hri.back hb).below hb'
end Go.Proofs.YtahedhpffjgimaaDoor
/- DrupKept, walked. -/
namespace Go.Proofs.YtahedhpffjgimaaDoor
open Go.RowKit
open Go.Lib Go.Sort
theorem gd_kept {n : Int} {L : List (List Int)} {P : List Stp} {c : List Int} (hm : mayD n L P = true) (hc : rightC n c = true) (hl : c.length ≤ 20) (hp : P.length ≤ 18) : ([(false, c), (true, c)] ++ P).length ≤ 1000 ∧ ∀ s ∈ [(false, c), (true, c)] ++ P, Lits s.2 ∧ s.2.length ≤ 1000 := by
  obtain ⟨_, _, h3⟩ := may_gd hm
  obtain ⟨_, _, h0, h1⟩ := may_len hm
  have hx : Lits c ∧ c.length ≤ 1000 := by
    refine ⟨fun x hx => ?_, by omega⟩
    simp only [rightC, Bool.and_eq_true, decide_eq_true_eq, Bool.not_eq_true', List.any_eq_false] at hc
    have h5 := hc.2 x hx
    simp only [badL, Bool.or_eq_true, beq_iff_eq, decide_eq_true_eq, not_or] at h5
    omega
  refine ⟨by simp; omega, fun s hs => ?_⟩
  rcases List.mem_append.1 hs with h | h
  · simp at h
    rcases h with rfl | rfl <;> exact hx
  · exact h3 s h
/-- What the statement asks first. -/
def askK (n : Int) (L : List (List Int)) (P : List Stp) (c : List Int) : Bool := mayD n L P && !(c.length == 0) && !(decide (20 < c.length)) && rightC n c && !(decide (18 < P.length))
/-- The boxes of the clause that is asked about alone. -/
theorem one_world {w : World} (LA : Option Addr) (k : Nat) (n : Int) (L : List (List Int)) {w1 : World} (F : FW w LA k n L w1) (CA : Option Addr) (kc : Nat) (c : List Int) (hc : RI w1 w1.heap.size CA c) (hm : c.length ≤ maxLen) (h0 : 0 ≤ n) (h1 : n ≤ 100000) :
    Calls Tryd.prog 30 #[.agg #[.int .i64 n, .slice (some ⟨w1.heap.size, 0, none⟩) 1 1]] (w1.alloc (.cells #[.slice CA c.length kc] 26)) (RetV (w1.alloc (.cells #[.slice CA c.length kc] 26)) (.bool (rightC n c))) := by
  have hbx := bal (Below.refl w1.heap.size w1) (.cells #[.slice CA c.length kc] 26)
  have hbc : (w1.alloc (.cells #[.slice CA c.length kc] 26)).cell? ⟨w1.heap.size, 0, none⟩ = some (.slice CA c.length kc) := by go_simp
  have hrc := RC.one (hc.nx hbx) (by simp) hbc hm
  have := refRight_any (some ⟨w1.heap.size, 0, none⟩) 1 n [c] (w1.alloc (.cells #[.slice CA c.length kc] 26)) hrc (by simp [maxLen])
  rwa [rightF_one c ⟨h0, h1⟩] at this
set_option maxHeartbeats 8000000 in
set_option maxRecDepth 100000 in
theorem kept_out (LA PA CA : Option Addr) (k kp kc : Nat) (n : Int) (L : List (List Int)) (P : List Stp) (c : List Int) (w : World) (hst : Start w LA PA k kp n L P) (hC : RI w w.heap.size CA c) (hp : P.length ≤ maxLen) (hcl : c.length ≤ maxLen) (h : askK n L P c = false) :
    Calls Tryd.prog 10 #[.agg #[.int .i64 n, .slice LA L.length k], .slice PA P.length kp, .slice CA c.length kc] w (RetV w (.bool true)) := by
  unfold maxLen at hp
  have F0 := FW.first w LA k n L
  have C1 := hst.c1 _ F0.bel
  have HS := Lib.hid hst
  have HF := Lib.hid F0
  have HC := Lib.hid hC
  have HCL := Lib.hid hcl
  unfold maxLen at hcl
  have HA := Lib.hid h
  clear hst F0 hC h
  go_enter Tryd.func10, Tryd.ntmps10
  go_wp2_with fail
  refine C1.mono ?_; rintro e w1 ⟨rfl, hb⟩
  have F1 := Lib.hid (HF.out.nx hb)
  have p0 := F1.out.f0
  have p1 := F1.out.f1
  have c2 := HS.out.c2 _ F1.out.bel
  clear C1 hb
  cases hm : mayD n L P
  · rw [hm] at c2
    go_wp2_with fail
    refine c2.mono ?_; rintro e w2 ⟨rfl, hb⟩
    have HB := Lib.hid (F1.out.nx hb).bel
    clear c2 hb
    go_wp2
    go_ret
    exact ⟨rfl, HB.out⟩
  · rw [hm] at c2
    obtain ⟨_, _, hn0, hn1⟩ := may_len hm
    go_wp2_with fail
    refine c2.mono ?_; rintro e w2 ⟨rfl, hb⟩
    have F2 := Lib.hid (F1.out.nx hb)
    have q0 := F2.out.f0
    have q1 := F2.out.f1
    clear c2 hb p0 p1
    by_cases hz : c.length = 0
    · have d0 : (c.length == 0) = true := by simp [hz]
      have d0' : ((c.length : Int) == 0) = true := beq_iff_eq.2 (by omega)
      have HB := Lib.hid F2.out.bel
      clear hz
      go_wp2
      go_ret
      exact ⟨rfl, HB.out⟩
    · have d0 : (c.length == 0) = false := by simpa using hz
      have d0' : ((c.length : Int) == 0) = false := beq_eq_false_iff_ne.2 (by omega)
      by_cases h20 : 20 < c.length
      · have d1 : decide (20 < c.length) = true := decide_eq_true h20
        have d1' : decide ((20 : Int) < c.length) = true := decide_eq_true (by omega)
        have HB := Lib.hid F2.out.bel
        clear hz h20
        go_wp2
        go_ret
        exact ⟨rfl, HB.out⟩
      · have d1 : decide (20 < c.length) = false := decide_eq_false h20
        have d1' : decide ((20 : Int) < c.length) = false := decide_eq_false (by omega)
        have C3 := one_world LA k n L F2.out CA kc c (HC.out.nx F2.out.bel) HCL.out hn0 (by omega)
        cases hr : rightC n c
        · rw [hr] at C3
          clear hz h20
          go_wp2_with fail
          refine C3.mono ?_; rintro e w3 ⟨rfl, hb⟩
          have HB := Lib.hid (bnx F2.out.bel ((bal (Below.refl _ _) _).trans (hb.mono (by simp))))
          clear C3 hb
          go_wp2
          go_ret
          exact ⟨rfl, HB.out⟩
        · rw [hr] at C3
          have d2 : decide (18 < P.length) = true := by
            have := HA.out
            simp only [askK, hm, hr, d0, d1, Bool.true_and, Bool.not_false, Bool.and_true] at this
            simpa using this
          have d2' : decide ((18 : Int) < P.length) = true := by simp at d2 ⊢; omega
          clear hz h20
          go_wp2_with fail
          refine C3.mono ?_; rintro e w3 ⟨rfl, hb⟩
          have HB := Lib.hid (bnx F2.out.bel ((bal (Below.refl _ _) _).trans (hb.mono (by simp))))
          clear C3 hb
          go_wp2
          go_ret
          exact ⟨rfl, HB.out⟩
theorem lit_ownE (w : World) (z : World) (hb : Below z.heap.size z w) (CA : Option Addr) (kc : Nat) (c : List Int) (hC : RI z z.heap.size CA c) (h1 : c.length ≤ kc) (h2 : kc ≤ maxLen) :
    OwnE (w.alloc (.cells #[.bool false, .slice CA c.length kc, .bool true, .slice CA c.length kc] 54)) z.heap.size (.slice (some ⟨w.heap.size, 0, none⟩) 2 2) [(false, c), (true, c)] := by
  refine ⟨[.bool false, .slice CA c.length kc, .bool true, .slice CA c.length kc], World.ownsRow_lit (size := 2) (e := 54) (base := z.heap.size) w #[.bool false, .slice CA c.length kc, .bool true, .slice CA c.length kc] 2 hb.size (by simp [maxLen]) (by simp), ?_, ?_⟩
  · intro u hu
    simp at hu
    rcases hu with rfl | rfl | rfl | rfl <;> rfl
  · intro i hi
    have hr := hC.below (bal hb (.cells #[.bool false, .slice CA c.length kc, .bool true, .slice CA c.length kc] 54))
    have : i = 0 ∨ i = 1 := by simp at hi; omega
    rcases this with rfl | rfl
    · exact ⟨rfl, CA, kc, rfl, hr, h1, h2⟩
    · exact ⟨rfl, CA, kc, rfl, hr, h1, h2⟩
set_option maxHeartbeats 8000000 in
set_option maxRecDepth 100000 in
theorem kept_in (LA PA CA : Option Addr) (k kp kc : Nat) (n : Int) (L : List (List Int)) (P : List Stp) (c : List Int) (w : World) (hst : Start w LA PA k kp n L P) (hL : RCk w w.heap.size LA L) (hP : RS w w.heap.size PA P) (hC : RI w w.heap.size CA c) (hck : c.length ≤ kc) (hkm : kc ≤ maxLen) (hz : PA = none → kp = 0) (h : askK n L P c = true) :
    Calls Tryd.prog 10 #[.agg #[.int .i64 n, .slice LA L.length k], .slice PA P.length kp, .slice CA c.length kc] w (RetV w (.bool true)) := by
  simp only [askK, Bool.and_eq_true, Bool.not_eq_true', decide_eq_false_iff_not] at h
  obtain ⟨⟨⟨⟨hm, d0⟩, h20⟩, hr⟩, h18⟩ := h
  obtain ⟨_, _, hn0, hn1⟩ := may_len hm
  obtain ⟨g1, g2, g3⟩ := may_gd hm
  obtain ⟨k1, k2⟩ := gd_kept hm hr (by omega) (by omega)
  have hcne : c ≠ [] := by rintro rfl; simp at d0
  have d0' : ((c.length : Int) == 0) = false := beq_eq_false_iff_ne.2 (by have := d0; simp at this; cases c <;> simp_all; omega)
  have d1 : decide (20 < c.length) = false := decide_eq_false h20
  have d1' : decide ((20 : Int) < c.length) = false := decide_eq_false (by omega)
  have d2 : decide (18 < P.length) = false := decide_eq_false h18
  have d2' : decide ((18 : Int) < P.length) = false := decide_eq_false (by omega)
  obtain ⟨I, hI⟩ : ∃ I, (checkQ (setsOf L) 0 ([(false, c), (true, c)] ++ P)).1 = I := ⟨_, rfl⟩
  obtain ⟨E, hE⟩ : ∃ E, (checkQ (setsOf L) 0 ([(false, c), (true, c)] ++ P)).2 = E := ⟨_, rfl⟩
  obtain ⟨J, hJ⟩ : ∃ J, (checkQ (setsOf L) 0 P).1 = J := ⟨_, rfl⟩
  obtain ⟨G, hG⟩ : ∃ G, (checkQ (setsOf L) 0 P).2 = G := ⟨_, rfl⟩
  have hbd := checkQ_bd P (setsOf L) 0
  rw [hJ, hG, Nat.zero_add] at hbd
  have hrel : (I = 0 ∧ E = 6) ∨ (I = J + 2 ∧ E = G) := by
    cases hcl : clashB (setsOf L) (negC (sortF c))
    · left
      have := checkQ_kept_no (setsOf L) c ((true, c) :: P) hcl
      have e : [(false, c), (true, c)] ++ P = (false, c) :: (true, c) :: P := rfl
      rw [e, this] at hI hE
      exact ⟨hI.symm, hE.symm⟩
    · right
      have := checkQ_kept (setsOf L) c hcne P hcl
      have e : [(false, c), (true, c)] ++ P = (false, c) :: (true, c) :: P := rfl
      rw [e, this, hJ] at hI
      rw [e, this, hG] at hE
      exact ⟨hI.symm, hE.symm⟩
  have F0 := FW.first w LA k n L
  have hz0 : (w.alloc (.cells #[.int .i64 n, .slice LA L.length k] 24)).heap.size = w.heap.size + 1 := by simp
  generalize hw0 : w.alloc (.cells #[.int .i64 n, .slice LA L.length k] 24) = w0 at *
  have b0 := F0.bel
  have C1 := hst.c1 _ b0
  have C2 : Hid (∀ wx, Below w0.heap.size w0 wx → Calls Tryd.prog 25 #[.agg #[.int .i64 n, .slice LA L.length k], .slice PA P.length kp] wx (RetV wx (.bool true))) := Lib.hid fun wx hx => by have := hst.c2 wx (bnx b0 hx); rwa [hm] at this
  have C4 : Hid (∀ wx v, Below w0.heap.size w0 wx → OwnE wx w0.heap.size v ([(false, c), (true, c)] ++ P) → Calls Tryd.prog 26 #[.agg #[.int .i64 n, .slice LA L.length k], v] wx (RetV wx (.tuple #[.int .i64 (I : Int), .int .i64 E]))) := Lib.hid fun wx v hx ho => by
    obtain ⟨A5, k5, rfl, h5⟩ := ho.val hx.size
    have := Check_any LA A5 k k5 n L ([(false, c), (true, c)] ++ P) wx ((hL.nx b0).nx hx) h5 g1 k1 k2
    unfold RetII at this
    rw [hI, hE] at this
    exact this
  have C5 : Hid (∀ wx, Below w0.heap.size w0 wx → Calls Tryd.prog 26 #[.agg #[.int .i64 n, .slice LA L.length k], .slice PA P.length kp] wx (RetV wx (.tuple #[.int .i64 (J : Int), .int .i64 G]))) := Lib.hid fun wx hx => by
    have := Check_any LA PA k kp n L P wx ((hL.nx b0).nx hx) ((hP.nx b0).nx hx) g1 g2 g3
    unfold RetII at this
    rw [hJ, hG] at this
    exact this
  have C3 : Hid (∀ wx, Below w0.heap.size w0 wx → Calls Tryd.prog 30 #[.agg #[.int .i64 n, .slice (some ⟨wx.heap.size, 0, none⟩) 1 1]] (wx.alloc (.cells #[.slice CA c.length kc] 26)) (RetV (wx.alloc (.cells #[.slice CA c.length kc] 26)) (.bool true))) := Lib.hid fun wx hx => by
    have := one_world LA k n L (F0.nx hx) CA kc c ((hC.nx b0).nx hx) (by omega) hn0 (by omega)
    rwa [hr] at this
  have HW0 := Lib.hid hw0
  have HB0 := Lib.hid b0
  have HC := Lib.hid (And.intro (hC.nx b0) (And.intro hck hkm))
  have HP := Lib.hid (And.intro (hP.nx b0) hz)
  have HR := Lib.hid hrel
  have HFF := Lib.hid F0
  have hpl : P.length ≤ 18 := by omega
  have hJl : J ≤ 18 := by omega
  clear hst F0 hL hP hC hm hr k1 k2 g1 g2 g3 hI hE hJ hG hrel hbd h20 h18 hcne hck hkm hz hw0 b0 hz0
  go_enter Tryd.func10, Tryd.ntmps10
  go_wp2_with fail
  rw [HW0.out]
  refine C1.mono ?_; rintro e w1 ⟨rfl, hb⟩
  have H1 := Lib.hid hb
  have F1 := HFF.out.nx hb
  have p0 := F1.f0
  have p1 := F1.f1
  have c2 := C2.out _ hb
  clear C1 hb F1
  go_wp2_with fail
  refine c2.mono ?_; rintro e w2 ⟨rfl, hb⟩
  have H2 := Lib.hid (bnx H1.out hb)
  have F2 := HFF.out.nx H2.out
  have q0 := F2.f0
  have q1 := F2.f1
  have c3 := C3.out _ H2.out
  clear c2 hb p0 p1 F2
  go_wp2_with fail
  refine c3.mono ?_; rintro e w3 ⟨rfl, hb⟩
  have H3 := Lib.hid (bnx (bnx H2.out (bal (Below.refl _ _) _)) hb)
  have F3 := HFF.out.nx H3.out
  have p0 := F3.f0
  have p1 := F3.f1
  have hOE := lit_ownE w3 w0 H3.out CA kc c HC.out.1 HC.out.2.1 HC.out.2.2
  have hB3 := bal H3.out (.cells #[.bool false, .slice CA c.length kc, .bool true, .slice CA c.length kc] 54)
  have HPL := Lib.hid hpl
  clear c3 hb q0 q1 F3
  go_wp2_with (first | (at_builtin; refine wpEs (z := w0) rfl (.tmp 47) (.tmp 48) rfl _ [(false, c), (true, c)] rfl hOE PA kp P rfl HP.out.1 HP.out.2 hB3 (by simp) (by omega) ?_) | fail)
  intro v' w4 hO4 hb4
  have H4 := Lib.hid hb4
  have F4 := HFF.out.nx H4.out
  have q0 := F4.f0
  have q1 := F4.f1
  have c4 := C4.out _ v' H4.out hO4
  clear hO4 hb4 F4 p0 p1 hOE hB3
  go_wp2_with fail
  refine c4.mono ?_; rintro e w5 ⟨rfl, hb⟩
  have H5 := Lib.hid (bnx H4.out hb)
  have F5 := HFF.out.nx H5.out
  have p0 := F5.f0
  have p1 := F5.f1
  have c5 := C5.out _ H5.out
  clear c4 hb q0 q1 F5
  go_wp2_with fail
  refine c5.mono ?_; rintro e w6 ⟨rfl, hb⟩
  have H6 := Lib.hid (bnx HB0.out (bnx H5.out hb))
  clear c5 hb p0 p1
  rcases HR.out with ⟨rfl, rfl⟩ | ⟨rfl, rfl⟩
  · go_wp2
    go_ret
    exact ⟨rfl, H6.out⟩
  · have e1 : (((J + 2 : Nat) : Int) == 0) = false := beq_eq_false_iff_ne.2 (by omega)
    have e2 : ((J : Int) + 2 == 0) = false := beq_eq_false_iff_ne.2 (by omega)
    go_wp2
    go_ret
    exact ⟨rfl, H6.out⟩
theorem kept_any (LA PA CA : Option Addr) (k kp kc : Nat) (n : Int) (L : List (List Int)) (P : List Stp) (c : List Int) (w : World) (hL : RCk w w.heap.size LA L) (hP : RS w w.heap.size PA P) (hC : RI w w.heap.size CA c) (hl : L.length ≤ maxLen) (hp : P.length ≤ maxLen) (hck : c.length ≤ kc) (hkm : kc ≤ maxLen) (hz : PA = none → kp = 0) (hW : Pow w.heap.size w) :
    Calls Tryd.prog 10 #[.agg #[.int .i64 n, .slice LA L.length k], .slice PA P.length kp, .slice CA c.length kc] w (RetV w (.bool true)) := by
  have hst := Start.mk' w LA PA k kp n L P hL hP hl hp hW
  cases h : askK n L P c
  · exact kept_out LA PA CA k kp kc n L P c w hst hC hp (by omega) h
  · exact kept_in LA PA CA k kp kc n L P c w hst hL hP hC hck hkm hz h
end Go.Proofs.YtahedhpffjgimaaDoor
