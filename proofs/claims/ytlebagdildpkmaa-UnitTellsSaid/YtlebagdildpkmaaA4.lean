/-
  wait: pieces.
-/
import Derived.Test.YtlebagdildpkmaaProg
import Derived.WalkKit
import Derived.WalkSpells
import Derived.WalkLawsBesides
import Derived.Lib.Hide
import Derived.BigQuiet
import Derived.Deep.QuietTactic
import Derived.Deep.RegionWith
import Derived.Deep.RegionHeld3
import Derived.Test.YtlebagdildpkmaaA3
set_option linter.unusedVariables false
namespace Go.Proofs.Ytlebagdildpkmaa
open Go.RowKit
theorem ptr_info : (Try.prog.info? 71).map (fun i => (i.zero, i.size, i.bytes)) = some (some (.pointer none), 1, 8) := by kernel_rfl
section
variable {z : World} {sb hb rb T : Nat} {w w' : World} {t : Nat → Tag} {vF : Value} {nR : Nat} {vk : Int → Value} {F G : List Int} {R : Int → List Nat} {W : Nat → Wt} {I : List Nat} {row : Option Nat}
/-- One that waits more. -/
theorem CSx.wnew (h : CSx z sb hb rb T w t vF nR vk F G R W I) (one two : Int) (rest : List Int) (A : Option Addr) (c : Nat) (hr : RI w z.heap.size A rest) (h1 : rest.length ≤ c) (h2 : c ≤ maxLen) :
    CSx z sb hb rb (T + rest.length) (w.alloc (.cells #[.int .i64 one, .int .i64 two, .slice A rest.length c] 73)) (tagPut t w.heap.size .wait) vF nR vk F G R (wtPut W w.heap.size ⟨one, two, rest⟩) (I ++ [w.heap.size]) := by
  have hg := World.grownBy_alloc w (.cells #[.int .i64 one, .int .i64 two, .slice A rest.length c] 73) none
  have h' := (h.retag w.heap.size (Nat.le_refl _) .wait).nx hg
  have hlt : ∀ i ∈ I, i < w.heap.size := fun i hi => World.block_lt_of_cell? w _ (h.wa i hi).2.2.1.1
  have hsz := h.bel.size
  refine ⟨h'.bel, h'.ts, h'.th, h'.tr, h'.bs, h'.bh, h'.br, h'.c0, h'.c1, h'.c2, h'.oF, h'.tF, h'.mh, h'.mr, ?_, h'.oR, h'.tR, ?_, fun k i hi => by simp [h.rI k i hi], h.rl⟩
  · have e : (I.map (fun i => (wtPut W w.heap.size ⟨one, two, rest⟩ i).rest.length)) = I.map (fun i => (W i).rest.length) := by
      apply List.map_congr_left
      intro i hi
      rw [wtPut_other (by have := hlt i hi; omega)]
    rw [List.map_append, List.sum_append, e]
    simp only [List.map_cons, List.map_nil, List.sum_cons, List.sum_nil, wtPut_same]
    have := h.pot
    omega
  · intro i hi
    rcases List.mem_append.1 hi with hi | hi
    · rw [wtPut_other (by have := hlt i hi; omega)]
      exact h'.wa i hi
    · rw [List.mem_singleton.1 hi, wtPut_same]
      refine ⟨tagPut_same _ _ _, hsz, ⟨by go_simp, by go_simp⟩, ⟨by go_simp, by go_simp⟩, A, c, by go_simp, by go_simp, ?_, h1, h2⟩
      exact hr.below ((Below.refl _ _).alloc hsz _)
/-- One that waits is put into a row. -/
theorem CSx.rapp (h : CSx z sb hb rb T w t vF nR vk F G R W I) {k : Int} {i T' : Nat} (hi : i ∈ I) (k1 : -4611686018427387904 ≤ k) (k2 : k ≤ 4611686018427387904) {w3 : World} {v' : Value}
    (o3 : w3.ownsRow z.heap.size 71 1 v' ((R k).length + 1) ((R k).map ptr ++ [ptr i])) (hg : w.grownBy w3 (vk k).ownBlock) (e3 : v'.ownBlock = (vk k).ownBlock ∨ v'.ownBlock = some w.heap.size) (hn : nR < maxLen) (hp : nR + 1 + (I.map (fun i => (W i).rest.length)).sum ≤ T') :
    ∃ w4 t', (Instr.mapUpdate 60 (.map (some rb)) (.int .i64 k) v').run Try.prog w3 = .ok () w4 ∧ CSx z sb hb rb T' w4 t' vF (nR + 1) (fun y => if y = k then v' else vk y) F G (rowAdd R k i) W I ∧
      w3.cell? ⟨sb, 2, none⟩ = some (.map (some rb)) ∧ (Instr.lookup 60 (.map (some rb)) (.int .i64 k) false).run Try.prog w3 = .ok (vk k) w3 := by
  have h' := h.retag w.heap.size (Nat.le_refl _) (.row k)
  obtain ⟨t', ht'⟩ : ∃ t', t' = tagPut t w.heap.size (.row k) := ⟨_, rfl⟩
  rw [← ht'] at h'
  have hv' : ∀ g, v'.ownBlock = some g → t' g = .row k := by
    intro g hv
    rcases e3 with e | e
    · exact h'.tR k g (e ▸ hv)
    · rw [e] at hv; cases hv; rw [ht']; exact tagPut_same _ _ _
  have hn' : ∀ τ, τ ≠ Tag.row k → ∀ g, (vk k).ownBlock = some g → t' g ≠ τ := by
    intro τ hτ g e; rw [h'.tR k g e]; exact hτ.symm
  have hB : ∀ g, (vk k).ownBlock = some g → z.heap.size ≤ g := fun g e => (World.ownsRow.lt (h.oR k) g e).1
  obtain ⟨a, b, c⟩ := h'.rec' hg (hn' _ (by simp))
  have m3 := h'.rws' hg (hn' _ (by simp))
  obtain ⟨w4, e4, m4, g4⟩ := m3.put Try.underlying3 Try.underlying60 hn (x := k) (wf_i64_mk k1 k2) v'
  have ms : ∀ τ, τ ≠ Tag.rows → ∀ g, some rb = some g → t' g ≠ τ := by
    intro τ hτ g e; cases e; rw [h'.tr]; exact hτ.symm
  have bB : ∀ g, some rb = some g → z.heap.size ≤ g := by intro g e; cases e; exact h.br
  have hsr : some sb ≠ some rb := fun e => ms .recd (by simp) sb e.symm h'.ts
  have hlt := World.block_lt_of_cell? w3 _ b
  refine ⟨w4, t', e4, ⟨below_grown (below_grown h.bel hg hB) g4 bB, h'.ts, h'.th, h'.tr, h.bs, h.bh, h.br, ⟨g4.cell a.1 hsr, (World.frozen?_of_block (g4.block sb hlt hsr)).trans a.2⟩, g4.cell b hsr, g4.cell c hsr, ?_, h'.tF, ?_, m4, hp, ?_, ?_, ?_, ?_, ?_⟩, c, m3.get Try.underlying3 Try.underlying60 (zero70 _) (wf_i64_mk k1 k2)⟩
  · refine World.ownsRow.kept (h'.frc' hg (hn' _ (by simp))) g4 ?_
    cases hv : vF.ownBlock with
    | none => exact .inl rfl
    | some g => exact .inr (fun e => ms .forced (by simp) g e.symm (h'.tF g hv))
  · exact (h'.hld' hg (hn' _ (by simp))).kept g4 (fun e => ms .held (by simp) hb e.symm h'.th)
  · intro y
    show w4.ownsRow z.heap.size 71 1 (if y = k then v' else vk y) (rowAdd R k i y).length ((rowAdd R k i y).map ptr)
    unfold rowAdd
    by_cases e : y = k
    · subst e
      rw [if_pos rfl, if_pos rfl]
      refine World.ownsRow.kept (by simpa using o3) g4 ?_
      cases hv : v'.ownBlock with
      | none => exact .inl rfl
      | some g => exact .inr (fun e => ms (.row y) (by simp) g e.symm (hv' g hv))
    · rw [if_neg e, if_neg e]
      refine World.ownsRow.kept (h'.row' hg y (hn' _ (by simp; exact e))) g4 ?_
      cases hv : (vk y).ownBlock with
      | none => exact .inl rfl
      | some g => exact .inr (fun e => ms (.row y) (by simp) g e.symm (h'.tR y g hv))
  · intro y g
    show (if y = k then v' else vk y).ownBlock = some g → t' g = .row y
    by_cases e : y = k
    · subst e; rw [if_pos rfl]; exact hv' g
    · rw [if_neg e]; exact h'.tR y g
  · intro j hj
    obtain ⟨p1, p2, p3⟩ := h'.wats' hg hB (hn' _ (by simp)) j hj
    exact ⟨p1, p2, p3.kept g4 (fun e => ms .wait (by simp) j e.symm p1) bB⟩
  · intro y j hj
    rcases mem_rowAdd.1 hj with h1 | ⟨_, h1⟩
    · exact h.rI y j h1
    · rw [h1]; exact hi
  · intro y
    have := h.rl y
    unfold rowAdd
    split <;> simp <;> omega
theorem gdr (w : World) : w.grownBy w.drew none := ⟨rfl, rfl, rfl, Nat.le_refl _, fun _ _ _ => rfl⟩
/-- 'append' in a region that draws, ahead of the store into the map. -/
theorem step_rows {ops : Array Oper} {o : Oper} {a : Act} {K : Act → World → Prop} {Q : Exit → Act → World → Prop} {E : Prop} {w2 : World}
    (hg : o.guard = none) (s x : Operand) (hop : o.op = Op.call { callee := Callee.builtin Builtin.append, args := #[s, x], argTypes := #[70, 70] })
    (h : CSx z sb hb rb T w t vF nR vk F G R W I) (hw : w.grownBy w2 none) {k : Int} {i T' : Nat} (hi : i ∈ I) (k1 : -4611686018427387904 ≤ k) (k2 : k ≤ 4611686018427387904) (hn : nR ≤ 100000000) (hp : nR + 1 + (I.map (fun i => (W i).rest.length)).sum ≤ T')
    (hs : a.eval s = vk k) (H : Nat) (hx : a.eval x = .slice (some ⟨H, 0, none⟩) 1 1) (hc : w2.cell? ⟨H, 0, none⟩ = some (ptr i))
    (hK : ∀ v' w3 w4 t', (Instr.mapUpdate 60 (.map (some rb)) (.int .i64 k) v').run Try.prog w3 = .ok () w4 → CSx z sb hb rb T' w4 t' vF (nR + 1) (fun y => if y = k then v' else vk y) F G (rowAdd R k i) W I →
      w3.cell? ⟨sb, 2, none⟩ = some (.map (some rb)) → (Instr.lookup 60 (.map (some rb)) (.int .i64 k) false).run Try.prog w3 = .ok (vk k) w3 → K (a.put o.dst v') w3) :
    if Region.wanted o (yielded ops a.tmps) = true then Oper.wp Try.prog o a w2 K Q else E := by
  have hwt : Region.wanted o (yielded ops a.tmps) = true := by simp [Region.wanted, hg]
  rw [if_pos hwt]
  have h2 := h.nx hw
  obtain ⟨i0, hi0, hz0, hz1, hz2⟩ := info_parts ptr_info
  have hb2 := h2.bel.size
  have hl := h2.rl k
  have hcell : ∀ j u, [ptr i][j]? = some u → w2.cell? ((⟨H, 0, none⟩ : Addr).add j) = some u := by
    intro j u hj
    match j, hj with
    | 0, hj => simp at hj; subst hj; rw [add_loc]; exact hc
  obtain ⟨v', w3, hr, o3, g3, _, e3⟩ := run_append_own_at (P := Try.prog) w2 z.heap.size 70 o.type 71 i0 (.pointer none) 1 8 Try.underlying70 hi0 hz0 hz1 hz2 rfl (by omega) (vk k) (R k).length ((R k).map ptr) (h2.oR k) ⟨H, 0, none⟩ 1 1 [ptr i] rfl hcell (one_cell _ rfl) (by unfold maxLen; omega) (by omega) hb2
  obtain ⟨w4, t', e4, s4, q1, q2⟩ := h2.rapp hi k1 k2 o3 g3 e3 (by unfold maxLen; omega) hp
  unfold Oper.wp execOp
  simp only [hop, resolve, invoke, builtin, Sem.run_bind, Sem.run_pure, Result.andThen_ok, List.map_toArray, List.map_cons, List.map_nil, hs, hx, hr]
  exact hK v' w3 w4 t' e4 s4 q1 q2
end
end Go.Proofs.Ytlebagdildpkmaa
