/-
  Appends of gates in a region that draws its order.
  A gate more: what it changes, and appends of gates that leave what lies elsewhere.
  The region of a gate more.
-/
import Derived.Test.YtkdocjcpehmljaaProg
import Derived.WalkKit
import Derived.WalkSpells
import Derived.WalkLawsBesides
import Derived.Lib.Hide
import Derived.BigQuiet
import Derived.Deep.QuietTactic
import Derived.Deep.RegionWith
import Derived.Deep.RegionHeld3
import Derived.Test.YtkdocjcpehmljaaQ16
import Derived.Test.YtkdocjcpehmljaaQ15
import Derived.Deep.DeepCutAuto
set_option linter.unusedVariables false
/- Appends of gates in a region that draws its order. -/
namespace Go.Proofs.Ytkdocjcpehmljaa
open Go.RowKit
theorem gate_info : (Try.prog.info? 58).map (fun i => (i.zero, i.size, i.bytes)) = some (some (.agg #[.int .i64 0, .int .i64 0]), 2, 16) := by kernel_rfl
/-- The cells of pairs. -/
def flatP : List Pr → List Value
  | [] => []
  | p :: l => .int .i64 p.1 :: .int .i64 p.2 :: flatP l
theorem flatP_length (l : List Pr) : (flatP l).length = l.length * 2 := by
  induction l with
  | nil => rfl
  | cons p l ih => simp [flatP, ih]; omega
theorem flatP_app (l m : List Pr) : flatP (l ++ m) = flatP l ++ flatP m := by
  induction l with
  | nil => rfl
  | cons p l ih => simp [flatP, ih]
theorem flatP_at (l : List Pr) (j : Nat) (u : Value) (h : (flatP l)[j]? = some u) : j / 2 < l.length ∧ u = (if j % 2 = 0 then .int .i64 (l.getD (j / 2) (0, 0)).1 else .int .i64 (l.getD (j / 2) (0, 0)).2) := by
  induction l generalizing j with
  | nil => simp [flatP] at h
  | cons p l ih =>
    match j with
    | 0 => simp [flatP] at h; exact ⟨by simp, by simp [h]⟩
    | 1 => simp [flatP] at h; exact ⟨by simp, by simp [h]⟩
    | j + 2 =>
      simp [flatP] at h
      obtain ⟨h1, h2⟩ := ih j h
      have e1 : (j + 2) / 2 = j / 2 + 1 := by omega
      have e2 : (j + 2) % 2 = j % 2 := by omega
      rw [e1, e2]
      exact ⟨by simp; omega, by simpa using h2⟩
theorem flatP_one (l : List Pr) : ∀ u ∈ flatP l, u.oneCell' = true := by
  induction l with
  | nil => intro u hu; cases hu
  | cons p l ih =>
    intro u hu
    simp only [flatP, List.mem_cons] at hu
    rcases hu with rfl | rfl | hu
    · rfl
    · rfl
    · exact ih u hu
theorem add_odd (a : Addr) (i : Nat) : a.add (i * 2 + 1) = ⟨(a.add (i * 2)).block, (a.add (i * 2)).off + 1, none⟩ := by
  by_cases hi : i = 0
  · subst hi; simp [Addr.add]
  · have h1 : i * 2 ≠ 0 := by omega
    unfold Addr.add
    rw [if_neg h1, if_neg (by omega)]
    simp; omega
def OwnP (w : World) (base : Nat) (v : Value) (l : List Pr) : Prop := w.ownsRow base 58 2 v l.length (flatP l)
theorem OwnP.old {w w' : World} {base : Nat} {v : Value} {l : List Pr} (h : OwnP w base v l) (hb : Below w.heap.size w w') : OwnP w' base v l := by
  refine World.ownsRow.kept h (row := none) ?_ ?_
  · exact ⟨hb.os, hb.tape, hb.output, hb.size, fun k hk _ => hb.block k hk⟩
  · cases hv : v.ownBlock with
    | none => exact .inl rfl
    | some k => exact .inr (by simp)
/-- 'append(out, l...)' of gates that came in. -/
theorem wpPso {w : World} {o : Oper} {a : Act} {K : Act → World → Prop} {Q : Exit → Act → World → Prop} (s x : Operand)
    (ho : o.op = .call { callee := .builtin .append, args := #[s, x], argTypes := #[23, 23] })
    (base : Nat) (v : Value) (l : List Pr) (hs : a.eval s = v) (hown : OwnP w base v l) (A : Option Addr) (c : Nat) (m : List Pr) (hx : a.eval x = .slice A m.length c) (hr : RP w w.heap.size A m) (hbase : base ≤ w.heap.size)
    (hn : l.length + m.length ≤ 3000000000) (hA : A = none → c = 0)
    (h : ∀ v' w', OwnP w' base v' (l ++ m) → Below base w w' → K (a.put o.dst v') w') : o.wp Try.prog a w K Q := by
  obtain ⟨i0, hi0, hz0, hz1, hz2⟩ := info_parts gate_info
  cases A with
  | none =>
    have h0 : m = [] := by
      cases m with
      | nil => rfl
      | cons x l => obtain ⟨ad, e, _⟩ := hr 0 (by simp); cases e
    subst h0
    obtain rfl := hA rfl
    have hrun := run_append_owned_none (P := Try.prog) (w := w) base 23 o.type 58 i0 2 Try.underlying23 hi0 v l.length (flatP l) hown
    have hx' : a.eval x = .slice none 0 0 := hx
    unfold Oper.wp
    simp [execOp, ho, resolve, invoke, builtin, hs, hx', hrun, Result.andThen]
    exact h v w (by simpa using hown) (Below.refl _ _)
  | some ad =>
    refine wp_append_own w s x 23 ho base 58 i0 (.agg #[.int .i64 0, .int .i64 0]) 2 16 Try.underlying23 hi0 hz0 hz1 hz2 rfl (by omega) v l.length (flatP l) hs hown ad m.length c (flatP m) hx (flatP_length m) ?_ (flatP_one m) (by unfold maxLen; omega) (by omega) hbase ?_
    · intro j u hj
      obtain ⟨h1, h2⟩ := flatP_at m j u hj
      obtain ⟨ad', e, _, hc0, hc1⟩ := hr (j / 2) h1
      cases e
      rw [h2]
      by_cases hj2 : j % 2 = 0
      · rw [if_pos hj2, show j = j / 2 * 2 by omega]
        have e1 : j / 2 * 2 / 2 = j / 2 := by omega
        rw [e1]
        exact hc0
      · rw [if_neg hj2, show j = j / 2 * 2 + 1 by omega]
        have e1 : (j / 2 * 2 + 1) / 2 = j / 2 := by omega
        rw [e1, add_odd]
        exact hc1
    · intro v' w' hown' hg _
      refine h v' w' ?_ ((Below.refl base w).grown hg hbase (fun k hk => ((World.ownsRow.lt hown) k hk).1))
      unfold OwnP
      rw [flatP_app]
      simpa using hown'
theorem stepPs {w : World} {ops : Array Oper} {o : Oper} {a : Act} {K : Act → World → Prop} {Q : Exit → Act → World → Prop} {E : Prop} (hgd : o.guard = none) (s x : Operand)
    (ho : o.op = .call { callee := .builtin .append, args := #[s, x], argTypes := #[23, 23] })
    (base : Nat) (v : Value) (l : List Pr) (hs : a.eval s = v) (hown : OwnP w base v l) (A : Option Addr) (c : Nat) (m : List Pr) (hx : a.eval x = .slice A m.length c) (hr : RP w w.heap.size A m) (hbase : base ≤ w.heap.size)
    (hn : l.length + m.length ≤ 3000000000) (hA : A = none → c = 0)
    (h : ∀ v' w', OwnP w' base v' (l ++ m) → Below base w w' → K (a.put o.dst v') w') : if Region.wanted o (yielded ops a.tmps) = true then Oper.wp Try.prog o a w K Q else E := by
  have hw : Region.wanted o (yielded ops a.tmps) = true := by simp [Region.wanted, hgd]
  rw [if_pos hw]
  exact wpPso s x ho base v l hs hown A c m hx hr hbase hn hA h
theorem OwnP.val {w : World} {base : Nat} {v : Value} {l : List Pr} (h : OwnP w base v l) : ∃ (A : Option Addr) (c : Nat), v = .slice A l.length c ∧ RP w w.heap.size A l ∧ (A = none → c = 0) ∧ l.length ≤ c ∧ c ≤ maxLen := by
  rcases h.2 with ⟨rfl, h0⟩ | ⟨g, cap, cur, rfl, hg, hh, h1, h2, h3, h4⟩
  · have : l = [] := List.eq_nil_of_length_eq_zero h0
    subst this
    exact ⟨none, 0, rfl, RP.nil _ _ _, fun _ => rfl, by simp, by unfold maxLen; omega⟩
  · have key : ∀ l : List Pr, ∀ i, i < l.length → (flatP l)[i * 2]? = some (.int .i64 (l.getD i (0, 0)).1) ∧ (flatP l)[i * 2 + 1]? = some (.int .i64 (l.getD i (0, 0)).2) := by
      intro l
      induction l with
      | nil => intro i hi; simp at hi
      | cons p l ih =>
        intro i hi
        match i with
        | 0 => exact ⟨by simp [flatP], by simp [flatP]⟩
        | i + 1 =>
          obtain ⟨q1, q2⟩ := ih i (by simp at hi; omega)
          rw [show (i + 1) * 2 = i * 2 + 2 by omega]
          exact ⟨by simpa [flatP] using q1, by simpa [flatP] using q2⟩
    refine ⟨_, cap, rfl, fun i hi => ⟨_, rfl, (World.ownsRow.lt h g rfl).2, ?_, ?_⟩, (fun e => by cases e), h1, h2⟩
    · rw [add_loc, World.ownsRow.cellAt h (i * 2) (by omega)]; exact (key l i hi).1
    · rw [add_loc]
      show w.cell? ⟨g, i * 2 + 1, none⟩ = _
      rw [World.ownsRow.cellAt h (i * 2 + 1) (by omega)]; exact (key l i hi).2
end Go.Proofs.Ytkdocjcpehmljaa
/- A gate more: what it changes, and appends of gates that leave what lies elsewhere. -/
namespace Go.Proofs.Ytkdocjcpehmljaa
open Go.RowKit
set_option maxHeartbeats 2000000 in
theorem May2_any (I : Int) (AL AG AO AB AC AN : Option Addr) (cL cG cO cB cC cN : Nat) (L G : List Pr) (O D C : List Int) (N : List Nm) (w : World) (hA : RA w w.heap.size AL AG AO AB AC AN L G O D C N) (lO : O.length ≤ maxLen) (lD : D.length ≤ maxLen) (lC : C.length ≤ maxLen) (lN : N.length ≤ maxLen) :
    Calls Try.prog 11 #[.agg #[.int .i64 I, .slice AL L.length cL, .slice AG G.length cG, .slice AO O.length cO, .slice AB D.length cB, .slice AC C.length cC, .slice AN N.length cN]] w (RetP w ((Md I L G O D C ∧ I ≤ 40 ∧ L.length ≤ 40 ∧ G.length ≤ 40 ∧ O.length ≤ 40 ∧ D.length ≤ 40 ∧ C.length ≤ 40) ∧ Rt I L G O D C (I + L.length + G.length))) := by
  have hb := bal (Below.refl w.heap.size w) (.cells #[.int .i64 I, .slice AL L.length cL, .slice AG G.length cG, .slice AO O.length cO, .slice AB D.length cB, .slice AC C.length cC, .slice AN N.length cN] 27)
  have hs0 : (w.alloc (.cells #[.int .i64 I, .slice AL L.length cL, .slice AG G.length cG, .slice AO O.length cO, .slice AB D.length cB, .slice AC C.length cC, .slice AN N.length cN] 27)).heap.size = w.heap.size + 1 := by simp
  have hk := KA.new w I AL AG AO AB AC AN cL cG cO cB cC cN L G O D C N
  have CS := Small_any I AL AG AO AB AC AN cL cG cO cB cC cN L G O D C N (w.alloc (.cells #[.int .i64 I, .slice AL L.length cL, .slice AG G.length cG, .slice AO O.length cO, .slice AB D.length cB, .slice AC C.length cC, .slice AN N.length cN] 27)) (hA.nx hb).n
  have CR : Hid (∀ wx, Below w.heap.size w wx → Calls Try.prog 26 #[.agg #[.int .i64 I, .slice AL L.length cL, .slice AG G.length cG, .slice AO O.length cO, .slice AB D.length cB, .slice AC C.length cC, .slice AN N.length cN]] wx (RetP wx (Rt I L G O D C (I + L.length + G.length)))) := Lib.hid fun wx hx => Right_any I AL AG AO AB AC AN cL cG cO cB cC cN L G O D C N wx (hA.nx hx) _ rfl lO lD lC lN
  obtain ⟨P, hP⟩ : ∃ P : Prop, P = ((Md I L G O D C ∧ I ≤ 40 ∧ L.length ≤ 40 ∧ G.length ≤ 40 ∧ O.length ≤ 40 ∧ D.length ≤ 40 ∧ C.length ≤ 40) ∧ Rt I L G O D C (I + L.length + G.length)) := ⟨_, rfl⟩
  rw [← hP]
  have HP := Lib.hid hP
  have HB := Lib.hid hb
  have HK := Lib.hid hk
  have HS := Lib.hid hs0
  clear hA hP hb hk hs0
  go_enter Try.func11, Try.ntmps11
  go_wp2_with fail
  refine CS.mono ?_; rintro e u1 ⟨b1, rfl, p1, hu1⟩
  obtain ⟨g0, g1, g2, g3, g4, g5, g6⟩ := HK.out.nx hu1 (by have := HS.out; omega)
  have hU1 := HB.out.trans (hu1.mono HB.out.size)
  have CR1 := CR.out u1 hU1
  have HU1 := Lib.hid hU1
  have HP1 := Lib.hid p1
  clear CS hu1 hU1 p1
  go_wp2_with fail
  refine CR1.mono ?_; rintro e u2 ⟨b2, rfl, p2, hu2⟩
  have HU2 := Lib.hid (bnx HU1.out hu2)
  have HP2 := Lib.hid p2
  clear CR1 hu2 p2 g0 g1 g2 g3 g4 g5 g6
  cases b1
  · go_wp2
    go_ret
    exact ⟨false, rfl, (fun h => by cases h), HU2.out⟩
  · go_wp2
    go_ret
    refine ⟨b2, rfl, fun hb2 => ?_, HU2.out⟩
    rw [HP.out]
    obtain ⟨s1, s2, s3, s4, s5, s6, s7⟩ := HP1.out (by simp)
    have hr := HP2.out hb2
    obtain ⟨r0, r1, r2, r3, r4, r5⟩ := HP2.out hb2
    refine ⟨⟨⟨r0, by omega, by omega, by omega, by omega, by omega, by omega, fun x hx => ?_, fun x hx => ?_, fun x hx => ?_, fun p hp => ?_, fun i hi => ?_⟩, s1, s2, s3, s4, s5, s6⟩, hr⟩
    · have := r1 x hx; omega
    · have := r2 x hx; omega
    · have := r3 x hx; omega
    · obtain ⟨i, hi, rfl⟩ := List.getElem_of_mem hp
      have := r4 i hi
      simp [List.getD_eq_getElem?_getD, hi] at this
      omega
    · have := r5 i hi
      omega
theorem lt_more (st inp : List Bool) (G : List Pr) (g : Pr) {l V : Int} (hV : (1 + inp.length + st.length + G.length : Int) = V + 1) (h0 : 0 ≤ l) (h1 : l ≤ 2 * V + 1) : lt (valsOf st inp (G ++ [g])) l = lt (valsOf st inp G) l := by
  have hl := valsOf_length st inp G
  unfold valsOf at hl ⊢
  rw [vals_app]
  exact lt_vals _ _ h0 (by omega)
theorem vals_more (st inp : List Bool) (G : List Pr) (g : Pr) : valsOf st inp (G ++ [g]) = valsOf st inp G ++ [lt (valsOf st inp G) g.1 && lt (valsOf st inp G) g.2] := by
  unfold valsOf
  rw [vals_app]
  rfl
theorem tell_more {I : Int} {L G : List Pr} {O D C : List Int} {st inp : List Bool} (g : Pr) (hR : Rt I L G O D C (I + L.length + G.length)) (h1 : st.length = L.length) (h2 : (inp.length : Int) = I) :
    nextL L (G ++ [g]) st inp = nextL L G st inp ∧ tellL D (G ++ [g]) st inp = tellL D G st inp ∧ tellL C (G ++ [g]) st inp = tellL C G st inp := by
  obtain ⟨r0, r1, r2, r3, r4, r5⟩ := hR
  have hV : (1 + inp.length + st.length + G.length : Int) = (I + L.length + G.length) + 1 := by omega
  refine ⟨?_, ?_, ?_⟩
  · refine List.map_congr_left fun p hp => ?_
    obtain ⟨i, hi, rfl⟩ := List.getElem_of_mem hp
    have := r4 i hi
    simp [List.getD_eq_getElem?_getD, hi] at this
    exact lt_more st inp G g hV this.1 this.2.1
  · exact List.map_congr_left fun x hx => lt_more st inp G g hV (r2 x hx).1 (r2 x hx).2
  · exact List.map_congr_left fun x hx => lt_more st inp G g hV (r3 x hx).1 (r3 x hx).2
theorem wpPg {w : World} {o : Oper} {a : Act} {K : Act → World → Prop} {Q : Exit → Act → World → Prop} (s x : Operand)
    (ho : o.op = .call { callee := .builtin .append, args := #[s, x], argTypes := #[23, 23] })
    (base : Nat) (v : Value) (l : List Pr) (hs : a.eval s = v) (hown : OwnP w base v l) (A : Option Addr) (c : Nat) (m : List Pr) (hx : a.eval x = .slice A m.length c) (hr : RP w w.heap.size A m) (hbase : base ≤ w.heap.size)
    (hn : l.length + m.length ≤ 8796093022208) (hA : A = none → c = 0)
    (h : ∀ v' w', OwnP w' base v' (l ++ m) → Below base w w' → w.grownBy w' v.ownBlock → K (a.put o.dst v') w') : o.wp Try.prog a w K Q := by
  obtain ⟨i0, hi0, hz0, hz1, hz2⟩ := info_parts gate_info
  cases A with
  | none =>
    have h0 : m = [] := by
      cases m with
      | nil => rfl
      | cons x l => obtain ⟨ad, e, _⟩ := hr 0 (by simp); cases e
    subst h0
    obtain rfl := hA rfl
    have hrun := run_append_owned_none (P := Try.prog) (w := w) base 23 o.type 58 i0 2 Try.underlying23 hi0 v l.length (flatP l) hown
    have hx' : a.eval x = .slice none 0 0 := hx
    unfold Oper.wp
    simp [execOp, ho, resolve, invoke, builtin, hs, hx', hrun, Result.andThen]
    exact h v w (by simpa using hown) (Below.refl _ _) ⟨rfl, rfl, rfl, Nat.le_refl _, fun _ _ _ => rfl⟩
  | some ad =>
    refine wp_append_own w s x 23 ho base 58 i0 (.agg #[.int .i64 0, .int .i64 0]) 2 16 Try.underlying23 hi0 hz0 hz1 hz2 rfl (by omega) v l.length (flatP l) hs hown ad m.length c (flatP m) hx (flatP_length m) ?_ (flatP_one m) (by unfold maxLen; omega) (by omega) hbase ?_
    · intro j u hj
      obtain ⟨h1, h2⟩ := flatP_at m j u hj
      obtain ⟨ad', e, _, hc0, hc1⟩ := hr (j / 2) h1
      cases e
      rw [h2]
      by_cases hj2 : j % 2 = 0
      · rw [if_pos hj2, show j = j / 2 * 2 by omega]
        have e1 : j / 2 * 2 / 2 = j / 2 := by omega
        rw [e1]
        exact hc0
      · rw [if_neg hj2, show j = j / 2 * 2 + 1 by omega]
        have e1 : (j / 2 * 2 + 1) / 2 = j / 2 := by omega
        rw [e1, add_odd]
        exact hc1
    · intro v' w' hown' hg _
      refine h v' w' ?_ ((Below.refl base w).grown hg hbase (fun k hk => ((World.ownsRow.lt hown) k hk).1)) hg
      unfold OwnP
      rw [flatP_app]
      simpa using hown'
theorem stepPg {w : World} {ops : Array Oper} {o : Oper} {a : Act} {K : Act → World → Prop} {Q : Exit → Act → World → Prop} {E : Prop} (hgd : o.guard = none) (s x : Operand)
    (ho : o.op = .call { callee := .builtin .append, args := #[s, x], argTypes := #[23, 23] })
    (base : Nat) (v : Value) (l : List Pr) (hs : a.eval s = v) (hown : OwnP w base v l) (A : Option Addr) (c : Nat) (m : List Pr) (hx : a.eval x = .slice A m.length c) (hr : RP w w.heap.size A m) (hbase : base ≤ w.heap.size)
    (hn : l.length + m.length ≤ 8796093022208) (hA : A = none → c = 0)
    (h : ∀ v' w', OwnP w' base v' (l ++ m) → Below base w w' → w.grownBy w' v.ownBlock → K (a.put o.dst v') w') : if Region.wanted o (yielded ops a.tmps) = true then Oper.wp Try.prog o a w K Q else E := by
  have hw : Region.wanted o (yielded ops a.tmps) = true := by simp [Region.wanted, hgd]
  rw [if_pos hw]
  exact wpPg s x ho base v l hs hown A c m hx hr hbase hn hA h
/-- The one gate stands in a block of its own. -/
theorem gate_kept {w w2 : World} {row : Option Nat} {b : Nat} {x z : Int} (h : RP w w.heap.size (some ⟨b, 0, none⟩) [(x, z)]) (hg : w.grownBy w2 row) (hne : some b ≠ row) : RP w2 w2.heap.size (some ⟨b, 0, none⟩) [(x, z)] := by
  intro i hi
  obtain ⟨ad, e, hlt, h0, h1⟩ := h i hi
  cases e
  have hlt' : b < w.heap.size := by simpa using hlt
  refine ⟨_, rfl, by have := hg.size; show b < _; omega, hg.cell h0 (by simpa [block_add] using hne), hg.cell h1 (by simpa [block_add] using hne)⟩
theorem gate_new (w : World) (x z : Int) : RP (w.alloc (.cells #[.int .i64 x, .int .i64 z] 58)) (w.alloc (.cells #[.int .i64 x, .int .i64 z] 58)).heap.size (some ⟨w.heap.size, 0, none⟩) [(x, z)] := by
  intro i hi
  have hi' : i = 0 := by simp at hi; omega
  subst hi'
  refine ⟨_, rfl, by simp, ?_, ?_⟩ <;> go_simp
end Go.Proofs.Ytkdocjcpehmljaa
/- The region of a gate more. -/
namespace Go.Proofs.Ytkdocjcpehmljaa
open Go.RowKit
/-- What stands behind it: the model with a gate more, in its block. -/
def More (u1 : World) (b8 : Nat) (I : Int) (AL AG AO AB AC AN : Option Addr) (cL cG cO cB cC cN : Nat) (L G : List Pr) (O D C : List Int) (N : List Nm) (g : Pr) (wx : World) : Prop := ∃ AM cM, KA wx b8 I AL AM AO AB AC AN cL cM cO cB cC cN L (G ++ [g]) O D C N ∧ RP wx wx.heap.size AM (G ++ [g]) ∧ Below u1.heap.size u1 wx
theorem RP.set {w : World} {A : Option Addr} {l : List Pr} (h : RP w w.heap.size A l) {p : Addr} {u : Value} (hp : w.cell? p = some u) (hu : ∀ i, u ≠ .int .i64 i) (x : Value) : RP (w.setCell p x) (w.setCell p x).heap.size A l := by
  intro i hi
  obtain ⟨ad, ea, hlt, h0, h1⟩ := h i hi
  refine ⟨ad, ea, by simpa using hlt, ?_, ?_⟩
  · rw [World.cell?_setCell_other]
    · exact h0
    · intro e'
      rw [e', h0] at hp
      exact hu _ (Option.some.inj hp).symm
  · rw [World.cell?_setCell_other]
    · exact h1
    · intro e'
      rw [e', h1] at hp
      exact hu _ (Option.some.inj hp).symm
theorem More.done {u1 w5 : World} {b8 : Nat} (I : Int) (AL AG AO AB AC AN : Option Addr) (cL cG cO cB cC cN : Nat) (L G : List Pr) (O D C : List Int) (N : List Nm) {g : Pr} {GM : List Pr} (hGM : [] ++ G ++ [g] = GM) {AM : Option Addr} (cM : Nat) (r : RP w5 w5.heap.size AM GM) (hk : KA w5 b8 I AL AG AO AB AC AN cL cG cO cB cC cN L G O D C N) (hf : w5.frozen? ⟨b8, 2, none⟩ = false) (hB : Below u1.heap.size u1 w5) (hb : u1.heap.size ≤ b8) : More u1 b8 I AL AG AO AB AC AN cL cG cO cB cC cN L G O D C N g (w5.setCell ⟨b8, 2, none⟩ (.slice AM GM.length cM)) := by
  rw [List.nil_append] at hGM
  subst hGM
  have r2 := RP.set r hk.k2 (fun i e => by cases e) (.slice AM (G ++ [g]).length cM)
  obtain ⟨k0, k1, k2, k3, k4, k5, k6⟩ := hk
  refine ⟨AM, cM, ?_, r2, hB.setCell hb _⟩
  constructor <;> go_simp
theorem DataW.weights67 {H : Type} (parts : List (DataW H)) : DataW.weights Try.prog 67 (.agg parts) = DataW.weightsEach Try.prog [27, 58, 28, 28] parts := by
  simp [DataW.weights, Try.underlying67]
end Go.Proofs.Ytkdocjcpehmljaa
