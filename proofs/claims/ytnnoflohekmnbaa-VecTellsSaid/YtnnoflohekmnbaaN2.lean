/-
  Rows of bits in memory, append onto them, and vidimusref02's not. Nothing is assumed.
-/
import Derived.Test.YtnnoflohekmnbaaProg
import Derived.WalkKit
import Derived.WalkSpells
import Derived.WalkLawsBesides
import Derived.LoopN
import Derived.IntWalk
import Derived.Lib.Hide
import Derived.Test.YtnnoflohekmnbaaN1
import Derived.Laws.BitsAllLaws
import Derived.Laws.Externs
import Derived.BigQuiet
import Derived.BigRegion
import Derived.Deep.QuietTactic
import Derived.Deep.RegionWith
import Derived.Deep.RegionHeld3
import Derived.StillTailTactics
import Derived.RegionTactic
import Derived.ChangeAlike
import Derived.Lib.SmallJoins
import Derived.Laws.AppendOwnNone
set_option linter.unusedVariables false
namespace Go.Proofs.Ytnnoflohekmnbaa
open Go.RowKit
/-- The slice at A holds the bits l, in a block below B. -/
def RB (w : World) (B : Nat) (A : Option Addr) (l : List Bool) : Prop :=
  ∀ i, i < l.length → ∃ ad, A = some ad ∧ ad.block < B ∧ w.cell? (ad.add i) = some (.bool (l.getD i false))
theorem blk_add (a : Addr) (n : Nat) : (a.add n).block = a.block := by unfold Addr.add; split <;> rfl
theorem RB.below {w w' : World} {B : Nat} {A : Option Addr} {l : List Bool} (h : RB w B A l) (hb : Below B w w') : RB w' B A l := by
  intro i hi
  obtain ⟨ad, e, hlt, hc⟩ := h i hi
  exact ⟨ad, e, hlt, (hb.cell (by rw [blk_add]; exact hlt)).trans hc⟩
theorem RB.mono {w : World} {B B' : Nat} {A : Option Addr} {l : List Bool} (h : RB w B A l) (hB : B ≤ B') : RB w B' A l := by
  intro i hi
  obtain ⟨ad, e, hlt, hc⟩ := h i hi
  exact ⟨ad, e, by omega, hc⟩
theorem RB.nx {w w' : World} {A : Option Addr} {l : List Bool} (h : RB w w.heap.size A l) (hb : Below w.heap.size w w') : RB w' w'.heap.size A l := (h.below hb).mono hb.size
/-- A row of bits that a call made for itself. -/
def OwnB (w : World) (base : Nat) (v : Value) (l : List Bool) : Prop := w.ownsRow base 4 1 v l.length (l.map Value.bool)
theorem bool_info : (Try.prog.info? 4).map (fun i => (i.zero, i.size, i.bytes)) = some (some (.bool false), 1, 1) := by kernel_rfl
theorem OwnB.nil (w : World) (base : Nat) : OwnB w base (.slice none 0 0) [] := World.ownsRow_nil _ _ _ _
theorem add_loc (g i : Nat) : (⟨g, 0, none⟩ : Addr).add i = ⟨g, i, none⟩ := by unfold Addr.add; split <;> simp_all
/-- What such a row is, as a value. -/
theorem OwnB.val {w : World} {base : Nat} {v : Value} {l : List Bool} (h : OwnB w base v l) : ∃ (A : Option Addr) (c : Nat), v = .slice A l.length c ∧ RB w w.heap.size A l ∧ (A = none → c = 0) := by
  rcases Go.Joins.ownsRow_forms h with ⟨rfl, hn⟩ | ⟨g, cap, rfl⟩
  · have : l = [] := List.length_eq_zero_iff.1 hn
    subst this
    exact ⟨none, 0, rfl, fun i hi => absurd hi (by simp), fun _ => rfl⟩
  · refine ⟨_, cap, rfl, fun i hi => ⟨_, rfl, (World.ownsRow.lt h g rfl).2, ?_⟩, fun e => by cases e⟩
    rw [add_loc, World.ownsRow.cellAt h i (by omega)]
    simp [List.getD_eq_getElem?_getD, hi]
theorem OwnB.old {w w' : World} {base : Nat} {v : Value} {l : List Bool} (h : OwnB w base v l) (hb : Below w.heap.size w w') : OwnB w' base v l := by
  refine World.ownsRow.kept h (row := none) ?_ ?_
  · exact ⟨hb.os, hb.tape, hb.output, hb.size, fun k hk _ => hb.block k hk⟩
  · cases hv : v.ownBlock with
    | none => exact .inl rfl
    | some k => exact .inr (by simp)
/-- 'append(s, b)'. -/
theorem wpB1 {z w : World} {ops : Array Oper} {rest : List Oper} {o : Oper} {a : Act} {Q : Exit → Act → World → Prop} (hgd : o.guard = none) (s x : Operand)
    (ho : o.op = .call { callee := .builtin .append, args := #[s, x], argTypes := #[65, 65] })
    (v : Value) (l : List Bool) (hs : a.eval s = v) (hown : OwnB w z.heap.size v l) (b : Bool) (hx : a.eval x = .slice (some ⟨w.heap.size, 0, none⟩) 1 1) (hb : Below z.heap.size z w)
    (hsz : l.length ≤ 100000)
    (h : ∀ v' w', OwnB w' z.heap.size v' (l ++ [b]) → Below z.heap.size z w' → wpList Try.prog ops Q rest (a.put o.dst v') w') : wpList Try.prog ops Q (o :: rest) a (w.alloc (.cells #[.bool b] 4)) := by
  obtain ⟨i0, hi0, hz0, hz1, hz2⟩ := info_parts bool_info
  have hbs := hb.size
  refine wpList_append_own _ hgd s x 65 ho z.heap.size 4 i0 (.bool false) 1 1 Try.underlying65 hi0 hz0 hz1 hz2 rfl (by omega) v l.length (l.map Value.bool) hs (World.ownsRow.alloc hown _) ⟨w.heap.size, 0, none⟩ 1 1 [.bool b] hx rfl (cell_one_new _ _ _) ?_ (by unfold maxLen; omega) (by omega) (by simp; omega) ?_
  · intro u hu; simp at hu; subst hu; rfl
  · intro v' w' hown' hg _
    refine h v' w' ?_ ((hb.alloc hbs _).grown hg (by simp; omega) (fun k hk => ((World.ownsRow.lt hown) k hk).1))
    unfold OwnB
    simpa using hown'
/-- 'append(s, t...)'. -/
theorem wpBs {w : World} {ops : Array Oper} {rest : List Oper} {o : Oper} {a : Act} {Q : Exit → Act → World → Prop} (hgd : o.guard = none) (s x : Operand)
    (ho : o.op = .call { callee := .builtin .append, args := #[s, x], argTypes := #[65, 65] })
    (base : Nat) (v : Value) (l : List Bool) (hs : a.eval s = v) (hown : OwnB w base v l) (B : Nat) (A : Option Addr) (m c : Nat) (r : List Bool) (hx : a.eval x = .slice A m c) (hm : m = r.length) (hr : RB w B A r) (hA : A = none → c = 0)
    (hsz : l.length + r.length ≤ 100000) (hbase : base ≤ w.heap.size)
    (h : ∀ v' w', OwnB w' base v' (l ++ r) → w.grownBy w' v.ownBlock → wpList Try.prog ops Q rest (a.put o.dst v') w') : wpList Try.prog ops Q (o :: rest) a w := by
  subst hm
  obtain ⟨i0, hi0, hz0, hz1, hz2⟩ := info_parts bool_info
  rcases A with _ | ad
  · have : r = [] := by
      rcases r with _ | ⟨x, r⟩
      · rfl
      · obtain ⟨ad, e, _⟩ := hr 0 (by simp); cases e
    subst this
    have := hA rfl
    subst this
    refine wpList_append_own_none hgd s x 65 ho base 4 i0 1 Try.underlying65 hi0 v l.length (l.map Value.bool) hs hown hx ?_
    exact h v w (by rw [List.append_nil]; exact hown) (World.grownBy.refl w _)
  · refine wpList_append_own w hgd s x 65 ho base 4 i0 (.bool false) 1 1 Try.underlying65 hi0 hz0 hz1 hz2 rfl (by omega) v l.length (l.map Value.bool) hs hown ad r.length c (r.map Value.bool) hx (by simp) ?_ ?_ (by unfold maxLen; omega) (by omega) hbase ?_
    · intro j u hj
      simp only [List.getElem?_map, Option.map_eq_some_iff] at hj
      obtain ⟨b, hb, rfl⟩ := hj
      obtain ⟨hjl, hb'⟩ := List.getElem?_eq_some_iff.1 hb
      obtain ⟨ad', e, _, hc⟩ := hr j hjl
      obtain rfl : ad = ad' := Option.some.inj e
      rw [hc]
      simp [List.getD_eq_getElem?_getD, hb]
    · intro u hu
      simp only [List.mem_map] at hu
      obtain ⟨b, _, rfl⟩ := hu
      rfl
    · intro v' w' hown' hg _
      refine h v' w' ?_ hg
      unfold OwnB
      simpa using hown'
/-- A call that tells W bits of number N in a row of its own. -/
def RetBs (w0 : World) (W N : Nat) (e : Ending) (w' : World) : Prop := ∃ v l, e = .returned v ∧ l.length = W ∧ nb l = N ∧ OwnB w' w0.heap.size v l ∧ Below w0.heap.size w0 w'
set_option maxRecDepth 100000 in
set_option maxHeartbeats 800000 in
theorem refNot_any (A : Option Addr) (c : Nat) (l : List Bool) (w : World) (h : RB w w.heap.size A l) (hn : l.length ≤ 1000) :
    Calls Try.prog 42 #[.slice A l.length c] w (RetBs w l.length (2 ^ l.length - 1 - nb l)) := by
  suffices H : Calls Try.prog 42 #[.slice A l.length c] w (fun e w' => ∃ v, e = .returned v ∧ OwnB w' w.heap.size v (l.map (!·)) ∧ Below w.heap.size w w') from
    H.mono fun e w' ⟨v, he, ho, hb⟩ => ⟨v, _, he, by simp, nb_not l, ho, hb⟩
  go_enter Try.func42, Try.ntmps42
  go_wp2
  go_loopw [3, 4] (fun v i wr => ∃ (j : Nat) (o : List Bool), j ≤ l.length ∧ i = .int .i64 j ∧ Hid (o = (l.take j).map (!·)) ∧ o.length = j ∧ OwnB wr w.heap.size v o ∧ Below w.heap.size w wr) (fun _ i _ => l.length - (intOf i).toNat)
  case atStart => exact ⟨0, [], Nat.zero_le _, rfl, rfl, rfl, OwnB.nil _ _, Below.refl _ _⟩
  case round =>
    obtain ⟨j, o, hj, rfl, HO, hoj, hown, hb⟩ := hrel
    by_cases hlt : j < l.length
    · obtain ⟨ad, rfl, hbk, hc⟩ := h j hlt
      replace hc := (hb.cell (by rw [blk_add]; exact hbk)).trans hc
      have HE : Hid (o ++ [!l.getD j false] = (l.take (j + 1)).map (!·)) := by show _ = _; rw [take_succ_ l j hlt, HO.out]; simp
      generalize l.getD j false = b at *
      clear HO h
      go_wp2_with (first
        | (at_builtin; refine wpB1 rfl (.tmp 11) (.tmp 17) rfl _ o rfl hown (!b) rfl hb ?c1 ?_))
      case c1 => omega
      intro v' w1 hown' hb'
      go_wp2
      go_roundw
      case rel => exact ⟨j + 1, o ++ [!b], by omega, by go_num, HE, by simp [hoj], hown', hb'⟩
      case measure => simp [intOf]; omega
    · obtain rfl : j = l.length := by omega
      have HE : Hid (o = l.map (!·)) := by show _ = _; rw [HO.out, List.take_length]
      clear HO h
      go_wp2
      go_ret
      exact ⟨_, rfl, by rw [← HE.out]; exact hown, hb⟩
end Go.Proofs.Ytnnoflohekmnbaa
