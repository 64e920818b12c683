/-
  variable, force.
-/
import Derived.Test.YtlebagdildpkmaaProg
import Derived.WalkKit
import Derived.WalkSpells
import Derived.WalkLawsBesides
import Derived.Lib.Hide
import Derived.BigQuiet
import Derived.Deep.QuietTactic
import Derived.Deep.RegionWith
import Derived.Deep.RegionHeld3
import Derived.Test.YtlebagdildpkmaaA2
set_option linter.unusedVariables false
namespace Go.Proofs.Ytlebagdildpkmaa
open Go.RowKit
set_option maxHeartbeats 400000 in
theorem variable_any (x : Int) (w : World) (h0 : -4611686018427387904 ≤ x) (h1 : x ≤ 4611686018427387904) :
    Calls Try.prog 31 #[.int .i64 x] w (RetS w (.int .u64 (x.natAbs : Int))) := by
  by_cases h : x < 0
  · have d : decide (x < 0) = true := decide_eq_true h
    go_enter Try.func31, Try.ntmps31
    go_wp2
    go_ret
    refine ⟨?_, rfl⟩
    show Ending.returned (.int .u64 (IntKind.u64.wrap (-IntKind.u64.wrap x))) = _
    rw [show IntKind.u64.wrap (-IntKind.u64.wrap x) = (x.natAbs : Int) by simp only [IntKind.wrap, IntKind.signed, IntKind.bits]; simp; omega]
  · have d : decide (x < 0) = false := decide_eq_false h
    go_enter Try.func31, Try.ntmps31
    go_wp2
    go_ret
    refine ⟨?_, rfl⟩
    show Ending.returned (.int .u64 x) = _
    rw [show (x.natAbs : Int) = x by omega]
theorem zero3 (w : World) : (zeroValue 3).run Try.prog w = .ok (.int .i64 0) w := by kernel_rfl
theorem zero70 (w : World) : (zeroValue 70).run Try.prog w = .ok (.slice none 0 0) w := by kernel_rfl
section
variable {z : World} {sb hb rb T : Nat} {w w' : World} {t : Nat → Tag} {vF : Value} {nR : Nat} {vk : Int → Value} {F G : List Int} {R : Int → List Nat} {W : Nat → Wt} {I : List Nat} {row : Option Nat}
theorem CSx.look (h : CSx z sb hb rb T w t vF nR vk F G R W I) {v : Int} (h0 : 0 ≤ v) (h1 : v ≤ 4611686018427387904) : (Instr.lookup 59 (.map (some hb)) (.int .u64 v) false).run Try.prog w = .ok (.int .i64 (heldF G v)) w :=
  h.mh.get Try.underlying56 Try.underlying59 (zero3 w) (wf_u64_mk h0 h1)
theorem CSx.lookR (h : CSx z sb hb rb T w t vF nR vk F G R W I) {x : Int} (h0 : -4611686018427387904 ≤ x) (h1 : x ≤ 4611686018427387904) : (Instr.lookup 60 (.map (some rb)) (.int .i64 x) false).run Try.prog w = .ok (vk x) w :=
  h.mr.get Try.underlying3 Try.underlying60 (zero70 w) (wf_i64_mk h0 h1)
/-- A literal is held. -/
theorem CSx.hput (h : CSx z sb hb rb T w t vF nR vk F G R W I) {x : Int} (hx : x ∉ G) (hn : -x ∉ G) (h1 : -4611686018427387904 ≤ x) (h2 : x ≤ 4611686018427387904) (hF : G.length < maxLen) :
    ∃ w1, (Instr.mapUpdate 59 (.map (some hb)) (.int .u64 (x.natAbs : Int)) (.int .i64 x)).run Try.prog w = .ok () w1 ∧ CSx z sb hb rb T w1 t vF nR vk F (G ++ [x]) R W I := by
  obtain ⟨w1, e1, e2, hg⟩ := h.mh.put Try.underlying56 Try.underlying59 hF (x := (x.natAbs : Int)) (wf_u64_mk (by omega) (by omega)) (.int .i64 x)
  have hn : ∀ τ, τ ≠ Tag.held → ∀ g, some hb = some g → t g ≠ τ := by
    intro τ hτ g e; cases e; rw [h.th]; exact hτ.symm
  have hB : ∀ g, some hb = some g → z.heap.size ≤ g := by intro g e; cases e; exact h.bh
  obtain ⟨a, b, c⟩ := h.rec' hg (hn _ (by simp))
  refine ⟨w1, e1, below_grown h.bel hg hB, h.ts, h.th, h.tr, h.bs, h.bh, h.br, a, b, c, h.frc' hg (hn _ (by simp)), h.tF, ?_, h.rws' hg (hn _ (by simp)), h.pot, fun k => h.row' hg k (hn _ (by simp)), h.tR, h.wats' hg hB (hn _ (by simp)), h.rI, h.rl⟩
  rw [show (G ++ [x]).length = G.length + 1 by simp]
  refine e2.congr fun v hv => ?_
  rw [heldF_more hx ‹-x ∉ G› v (wf_u64 hv)]
  split <;> rfl
/-- A literal more is forced: w3 is what append leaves. -/
theorem CSx.fapp (h : CSx z sb hb rb T w t vF nR vk F G R W I) {x : Int} {w3 : World} {vF' : Value}
    (o3 : w3.ownsRow z.heap.size 3 1 vF' (F.length + 1) (F.map (Value.int .i64) ++ [.int .i64 x])) (hg : w.grownBy w3 vF.ownBlock) (e3 : vF'.ownBlock = vF.ownBlock ∨ vF'.ownBlock = some w.heap.size) :
    ∃ t', CSx z sb hb rb T (w3.setCell ⟨sb, 0, none⟩ vF') t' vF' nR vk (F ++ [x]) G R W I := by
  have h' := h.retag w.heap.size (Nat.le_refl _) .forced
  obtain ⟨t', ht'⟩ : ∃ t', t' = tagPut t w.heap.size .forced := ⟨_, rfl⟩
  rw [← ht'] at h'
  have hF' : ∀ g, vF'.ownBlock = some g → t' g = .forced := by
    intro g hv
    rcases e3 with e | e
    · exact h'.tF g (e ▸ hv)
    · rw [e] at hv; cases hv; rw [ht']; exact tagPut_same _ _ _
  have hn : ∀ τ, τ ≠ Tag.forced → ∀ g, vF.ownBlock = some g → t' g ≠ τ := by
    intro τ hτ g e; rw [h'.tF g e]; exact hτ.symm
  have hB : ∀ g, vF.ownBlock = some g → z.heap.size ≤ g := fun g e => (World.ownsRow.lt h.oF g e).1
  obtain ⟨a, b, c⟩ := h'.rec' hg (hn _ (by simp))
  have gs := grown_set (w := w3) ⟨sb, 0, none⟩ vF'
  have ms : ∀ τ, τ ≠ Tag.recd → ∀ g, some sb = some g → t' g ≠ τ := by
    intro τ hτ g e; cases e; rw [h'.ts]; exact hτ.symm
  have bB : ∀ g, some sb = some g → z.heap.size ≤ g := by intro g e; cases e; exact h.bs
  have hne : ∀ b, some b ≠ vF.ownBlock → b ≠ sb → b < w.heap.size → (w3.setCell ⟨sb, 0, none⟩ vF').heap[b]? = w.heap[b]? := by
    intro b h1 h2 h3
    exact (gs.block b (Nat.lt_of_lt_of_le h3 hg.size) (by simpa using h2)).trans (hg.block b h3 h1)
  have oF' : (w3.setCell ⟨sb, 0, none⟩ vF').ownsRow z.heap.size 3 1 vF' (F.length + 1) (F.map (Value.int .i64) ++ [.int .i64 x]) := by
    refine World.ownsRow.kept o3 gs ?_
    cases hv : vF'.ownBlock with
    | none => exact .inl rfl
    | some g => exact .inr (fun e => by cases e; exact absurd (hF' sb hv) (by rw [h'.ts]; simp))
  refine ⟨t', below_grown (below_grown h.bel hg hB) gs bB, h'.ts, h'.th, h'.tr, h.bs, h.bh, h.br, ⟨World.cell?_setCell_same _ _ _ a.1, by simpa using a.2⟩, ?_, ?_, ?_, hF', ?_, ?_, h.pot, ?_, h'.tR, ?_, h.rI, h.rl⟩
  · rw [World.cell?_setCell_other _ _ _ _ (by simp)]; exact b
  · rw [World.cell?_setCell_other _ _ _ _ (by simp)]; exact c
  · unfold OwnI; simpa using oF'
  · exact (h'.hld' hg (hn _ (by simp))).kept gs (fun e => ms .held (by simp) hb e.symm h'.th)
  · exact (h'.rws' hg (hn _ (by simp))).kept gs (fun e => ms .rows (by simp) rb e.symm h'.tr)
  · intro k
    refine World.ownsRow.kept (h'.row' hg k (hn _ (by simp))) gs ?_
    cases hv : (vk k).ownBlock with
    | none => exact .inl rfl
    | some g => exact .inr (fun e => ms (.row k) (by simp) g e.symm (h'.tR k g hv))
  · intro i hi
    obtain ⟨p1, p2, p3⟩ := h'.wats' hg hB (hn _ (by simp)) i hi
    exact ⟨p1, p2, p3.kept gs (fun e => ms .wait (by simp) i e.symm p1) bB⟩
end

set_option maxHeartbeats 800000 in
theorem force_in {z : World} {sb hb rb T : Nat} {w : World} {vk : Int → Value} {F : List Int} {R : Int → List Nat} {W : Nat → Wt} {I : List Nat} (h : CS z sb hb rb T w vk F R W I) (x : Int) (x0 : x ≠ 0) (h1 : -100000 ≤ x) (h2 : x ≤ 100000) (hc : ∀ y ∈ F, -y ∉ F) (hx : x ∈ F) :
    Calls Try.prog 34 #[.pointer (some ⟨sb, 0, none⟩), .int .i64 x] w (RetS w (.bool false)) := by
  obtain ⟨t, vF, nR, h⟩ := h
  have V := variable_any x w (by omega) (by omega)
  have hl := h.look (v := (x.natAbs : Int)) (by omega) (by omega)
  rw [heldF_in hx (hc x hx) (by omega)] at hl
  have c1 := h.c1
  have d1 : (x == x) = true := by simp
  clear hc hx
  go_enter Try.func34, Try.ntmps34
  go_wp2_with fail
  refine V.mono ?_
  rintro e w' ⟨rfl, rfl⟩
  go_wp2
  go_ret
  exact ⟨rfl, rfl⟩
set_option maxHeartbeats 800000 in
theorem force_neg {z : World} {sb hb rb T : Nat} {w : World} {vk : Int → Value} {F : List Int} {R : Int → List Nat} {W : Nat → Wt} {I : List Nat} (h : CS z sb hb rb T w vk F R W I) (x : Int) (x0 : x ≠ 0) (h1 : -100000 ≤ x) (h2 : x ≤ 100000) (hc : ∀ y ∈ F, -y ∉ F) (hx : -x ∈ F) :
    Calls Try.prog 34 #[.pointer (some ⟨sb, 0, none⟩), .int .i64 x] w (RetS w (.bool true)) := by
  obtain ⟨t, vF, nR, h⟩ := h
  have V := variable_any x w (by omega) (by omega)
  have hl := h.look (v := (x.natAbs : Int)) (by omega) (by omega)
  rw [(heldF_neg x0 (fun hm => by have := hc _ hm; rwa [Int.neg_neg] at this)).2 hx] at hl
  have c1 := h.c1
  have d1 : (-x == x) = false := by rw [beq_eq_false_iff_ne]; omega
  have d2 : (-x == -x) = true := by simp
  clear hc hx
  go_enter Try.func34, Try.ntmps34
  go_wp2_with fail
  refine V.mono ?_
  rintro e w' ⟨rfl, rfl⟩
  go_wp2
  go_ret
  exact ⟨rfl, rfl⟩
theorem row_slice {w : World} {b : Nat} {e : TypeId} {s : Nat} {v : Value} {n : Nat} {xs : List Value} (h : w.ownsRow b e s v n xs) : ∃ A c, v = .slice A n c := by
  rcases h.2 with ⟨rfl, rfl⟩ | ⟨g, cap, cur, rfl, _⟩
  · exact ⟨_, _, rfl⟩
  · exact ⟨_, _, rfl⟩
theorem one_cell (v : Value) (h : v.oneCell' = true) : ∀ u ∈ [v], u.oneCell' = true := by intro u hu; simp at hu; subst hu; exact h
set_option maxHeartbeats 1600000 in
theorem force_new {z : World} {sb hb rb T : Nat} {w : World} {vk : Int → Value} {F : List Int} {R : Int → List Nat} {W : Nat → Wt} {I : List Nat} (h : CS z sb hb rb T w vk F R W I) (x : Int) (x0 : x ≠ 0) (h1 : -100000 ≤ x) (h2 : x ≤ 100000) (hF : F.length ≤ 1000000) (hx : x ∉ F) (hn : -x ∉ F) :
    Calls Try.prog 34 #[.pointer (some ⟨sb, 0, none⟩), .int .i64 x] w (fun e w' => e = .returned (.bool false) ∧ CS z sb hb rb T w' vk (F ++ [x]) R W I) := by
  obtain ⟨t, vF, nR, h⟩ := h
  have V := variable_any x w (by omega) (by omega)
  have hl := h.look (v := (x.natAbs : Int)) (by omega) (by omega)
  rw [heldF_out hx hn] at hl
  have c1 := h.c1
  have d1 : (0 == x) = false := by rw [beq_eq_false_iff_ne]; omega
  have d2 : (0 == -x) = false := by rw [beq_eq_false_iff_ne]; omega
  obtain ⟨w1, hput, hs1⟩ := h.hput hx hn (by omega) (by omega) (by unfold maxLen; omega)
  have c0 := hs1.c0.1
  have f0 := hs1.c0.2
  obtain ⟨i0, hi0, hz0, hz1, hz2⟩ := info_parts int_info
  have HS := Lib.hid hs1
  have hsz := hs1.bel.size
  have hlt := hs1.lts.1
  clear hs1 h hx hn
  go_enter Try.func34, Try.ntmps34
  go_wp2_with fail
  refine V.mono ?_
  rintro e w' ⟨rfl, rfl⟩
  clear V
  go_wp2_with (first | (at_builtin; refine wpList_append_own_at _ rfl _ _ 23 rfl z.heap.size 3 i0 (.int .i64 0) 1 8 Try.underlying23 hi0 hz0 hz1 hz2 rfl (by omega) vF F.length (F.map (Value.int .i64)) rfl (World.ownsRow.alloc HS.out.oF _) ⟨w1.heap.size, 0, none⟩ 1 1 [.int .i64 x] rfl rfl (cell_one_new _ _ _) (one_cell _ rfl) (by unfold maxLen; omega) (by omega) (by simp; omega) ?_) | go_in)
  intro v' w3 o3 g3 hnil e3
  obtain ⟨A3, c3, rfl⟩ := row_slice o3
  have hs2 := HS.out.nx (World.grownBy_alloc w1 (.cells #[.int .i64 x] 3) none)
  obtain ⟨⟨ca, fa⟩, _, _⟩ := hs2.rec' g3 (fun g e => by rw [hs2.tF g e]; simp)
  obtain ⟨t', hs3⟩ := hs2.fapp o3 g3 (by simpa using e3)
  have H3 := Lib.hid hs3
  clear hs3 hs2 HS o3 g3 e3 hnil
  go_wp2
  go_ret
  exact ⟨rfl, _, _, _, H3.out⟩
end Go.Proofs.Ytlebagdildpkmaa
