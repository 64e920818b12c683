/-
  variable, force.
  wait: pieces.
  wait.
  Slices of slices.
  Rows of numbers none of which is there twice are short; what is seen of a clause that is entered. No conditions.
-/
import Derived.Test.YtahedhpffjgimaaDoorProg
import Derived.WalkKit
import Derived.WalkSpells
import Derived.WalkLawsBesides
import Derived.Lib.Hide
import Derived.BigQuiet
import Derived.Deep.QuietTactic
import Derived.Deep.RegionWith
import Derived.Deep.RegionHeld3
import Derived.Test.YtahedhpffjgimaaDoorQ09
set_option linter.unusedVariables false
/- variable, force. -/
namespace Go.Proofs.YtahedhpffjgimaaDoor
open Go.RowKit
set_option maxHeartbeats 400000 in
theorem variable_any (x : Int) (w : World) (h0 : -4611686018427387904 ≤ x) (h1 : x ≤ 4611686018427387904) :
    Calls Tryd.prog 76 #[.int .i64 x] w (RetS w (.int .u64 (x.natAbs : Int))) := by
  by_cases h : x < 0
  · have d : decide (x < 0) = true := decide_eq_true h
    go_enter Tryd.func76, Tryd.ntmps76
    go_wp2
    go_ret
    refine ⟨?_, rfl⟩
    show Ending.returned (.int .u64 (IntKind.u64.wrap (-IntKind.u64.wrap x))) = _
    rw [show IntKind.u64.wrap (-IntKind.u64.wrap x) = (x.natAbs : Int) by simp only [IntKind.wrap, IntKind.signed, IntKind.bits]; simp; omega]
  · have d : decide (x < 0) = false := decide_eq_false h
    go_enter Tryd.func76, Tryd.ntmps76
    go_wp2
    go_ret
    refine ⟨?_, rfl⟩
    show Ending.returned (.int .u64 x) = _
    rw [show (x.natAbs : Int) = x by omega]
theorem zero3 (w : World) : (zeroValue 3).run Tryd.prog w = .ok (.int .i64 0) w := by kernel_rfl
theorem zero70 (w : World) : (zeroValue 194).run Tryd.prog w = .ok (.slice none 0 0) w := by kernel_rfl
section
variable {z : World} {sb hb rb T : Nat} {w w' : World} {t : Nat → Tag} {vF : Value} {nR : Nat} {vk : Int → Value} {F G : List Int} {R : Int → List Nat} {W : Nat → Wt} {I : List Nat} {row : Option Nat}
theorem CSx.look (h : CSx z sb hb rb T w t vF nR vk F G R W I) {v : Int} (h0 : 0 ≤ v) (h1 : v ≤ 4611686018427387904) : (Instr.lookup 187 (.map (some hb)) (.int .u64 v) false).run Tryd.prog w = .ok (.int .i64 (heldF G v)) w :=
  h.mh.get Tryd.underlying126 Tryd.underlying187 (zero3 w) (wf_u64_mk h0 h1)
theorem CSx.lookR (h : CSx z sb hb rb T w t vF nR vk F G R W I) {x : Int} (h0 : -4611686018427387904 ≤ x) (h1 : x ≤ 4611686018427387904) : (Instr.lookup 188 (.map (some rb)) (.int .i64 x) false).run Tryd.prog w = .ok (vk x) w :=
  h.mr.get Tryd.underlying3 Tryd.underlying188 (zero70 w) (wf_i64_mk h0 h1)
/-- A literal is held. -/
theorem CSx.hput (h : CSx z sb hb rb T w t vF nR vk F G R W I) {x : Int} (hx : x ∉ G) (hn : -x ∉ G) (h1 : -4611686018427387904 ≤ x) (h2 : x ≤ 4611686018427387904) (hF : G.length < maxLen) :
    ∃ w1, (Instr.mapUpdate 187 (.map (some hb)) (.int .u64 (x.natAbs : Int)) (.int .i64 x)).run Tryd.prog w = .ok () w1 ∧ CSx z sb hb rb T w1 t vF nR vk F (G ++ [x]) R W I := by
  obtain ⟨w1, e1, e2, hg⟩ := h.mh.put Tryd.underlying126 Tryd.underlying187 hF (x := (x.natAbs : Int)) (wf_u64_mk (by omega) (by omega)) (.int .i64 x)
  have hn : ∀ τ, τ ≠ Tag.held → ∀ g, some hb = some g → t g ≠ τ := by
    intro τ hτ g e; cases e; rw [h.th]; exact hτ.symm
  have hB : ∀ g, some hb = some g → z.heap.size ≤ g := by intro g e; cases e; exact h.bh
  obtain ⟨a, b, c⟩ := h.rec' hg (hn _ (by simp))
  refine ⟨w1, e1, below_grown h.bel hg hB, h.ts, h.th, h.tr, h.bs, h.bh, h.br, a, b, c, h.frc' hg (hn _ (by simp)), h.tF, ?_, h.rws' hg (hn _ (by simp)), h.pot, fun k => h.row' hg k (hn _ (by simp)), h.tR, h.wats' hg hB (hn _ (by simp)), h.rI, h.rl⟩
  rw [show (G ++ [x]).length = G.length + 1 by simp]
  refine e2.congr fun v hv => ?_
  rw [heldF_more hx ‹-x ∉ G› v (wf_u64 hv)]
  split <;> rfl
/-- A literal more is forced: w3 is what append leaves. -/
theorem CSx.fapp (h : CSx z sb hb rb T w t vF nR vk F G R W I) {x : Int} {w3 : World} {vF' : Value}
    (o3 : w3.ownsRow z.heap.size 3 1 vF' (F.length + 1) (F.map (Value.int .i64) ++ [.int .i64 x])) (hg : w.grownBy w3 vF.ownBlock) (e3 : vF'.ownBlock = vF.ownBlock ∨ vF'.ownBlock = some w.heap.size) :
    ∃ t', CSx z sb hb rb T (w3.setCell ⟨sb, 0, none⟩ vF') t' vF' nR vk (F ++ [x]) G R W I := by
  have h' := h.retag w.heap.size (Nat.le_refl _) .forced
  obtain ⟨t', ht'⟩ : ∃ t', t' = tagPut t w.heap.size .forced := ⟨_, rfl⟩
  rw [← ht'] at h'
  have hF' : ∀ g, vF'.ownBlock = some g → t' g = .forced := by
    intro g hv
    rcases e3 with e | e
    · exact h'.tF g (e ▸ hv)
    · rw [e] at hv; cases hv; rw [ht']; exact tagPut_same _ _ _
  have hn : ∀ τ, τ ≠ Tag.forced → ∀ g, vF.ownBlock = some g → t' g ≠ τ := by
    intro τ hτ g e; rw [h'.tF g e]; exact hτ.symm
  have hB : ∀ g, vF.ownBlock = some g → z.heap.size ≤ g := fun g e => (World.ownsRow.lt h.oF g e).1
  obtain ⟨a, b, c⟩ := h'.rec' hg (hn _ (by simp))
  have gs := grown_set (w := w3) ⟨sb, 0, none⟩ vF'
  have ms : ∀ τ, τ ≠ Tag.recd → ∀ g, some sb = some g → t' g ≠ τ := by
    intro τ hτ g e; cases e; rw [h'.ts]; exact hτ.symm
  have bB : ∀ g, some sb = some g → z.heap.size ≤ g := by intro g e; cases e; exact h.bs
  have hne : ∀ b, some b ≠ vF.ownBlock → b ≠ sb → b < w.heap.size → (w3.setCell ⟨sb, 0, none⟩ vF').heap[b]? = w.heap[b]? := by
    intro b h1 h2 h3
    exact (gs.block b (Nat.lt_of_lt_of_le h3 hg.size) (by simpa using h2)).trans (hg.block b h3 h1)
  have oF' : (w3.setCell ⟨sb, 0, none⟩ vF').ownsRow z.heap.size 3 1 vF' (F.length + 1) (F.map (Value.int .i64) ++ [.int .i64 x]) := by
    refine World.ownsRow.kept o3 gs ?_
    cases hv : vF'.ownBlock with
    | none => exact .inl rfl
    | some g => exact .inr (fun e => by cases e; exact absurd (hF' sb hv) (by rw [h'.ts]; simp))
  refine ⟨t', below_grown (below_grown h.bel hg hB) gs bB, h'.ts, h'.th, h'.tr, h.bs, h.bh, h.br, ⟨World.cell?_setCell_same _ _ _ a.1, by simpa using a.2⟩, ?_, ?_, ?_, hF', ?_, ?_, h.pot, ?_, h'.tR, ?_, h.rI, h.rl⟩
  · rw [World.cell?_setCell_other _ _ _ _ (by simp)]; exact b
  · rw [World.cell?_setCell_other _ _ _ _ (by simp)]; exact c
  · unfold OwnI; simpa using oF'
  · exact (h'.hld' hg (hn _ (by simp))).kept gs (fun e => ms .held (by simp) hb e.symm h'.th)
  · exact (h'.rws' hg (hn _ (by simp))).kept gs (fun e => ms .rows (by simp) rb e.symm h'.tr)
  · intro k
    refine World.ownsRow.kept (h'.row' hg k (hn _ (by simp))) gs ?_
    cases hv : (vk k).ownBlock with
    | none => exact .inl rfl
    | some g => exact .inr (fun e => ms (.row k) (by simp) g e.symm (h'.tR k g hv))
  · intro i hi
    obtain ⟨p1, p2, p3⟩ := h'.wats' hg hB (hn _ (by simp)) i hi
    exact ⟨p1, p2, p3.kept gs (fun e => ms .wait (by simp) i e.symm p1) bB⟩
end

set_option maxHeartbeats 800000 in
theorem force_in {z : World} {sb hb rb T : Nat} {w : World} {vk : Int → Value} {F : List Int} {R : Int → List Nat} {W : Nat → Wt} {I : List Nat} (h : CS z sb hb rb T w vk F R W I) (x : Int) (x0 : x ≠ 0) (h1 : -100000 ≤ x) (h2 : x ≤ 100000) (hc : ∀ y ∈ F, -y ∉ F) (hx : x ∈ F) :
    Calls Tryd.prog 141 #[.pointer (some ⟨sb, 0, none⟩), .int .i64 x] w (RetS w (.bool false)) := by
  obtain ⟨t, vF, nR, h⟩ := h
  have V := variable_any x w (by omega) (by omega)
  have hl := h.look (v := (x.natAbs : Int)) (by omega) (by omega)
  rw [heldF_in hx (hc x hx) (by omega)] at hl
  have c1 := h.c1
  have d1 : (x == x) = true := by simp
  clear hc hx
  go_enter Tryd.func141, Tryd.ntmps141
  go_wp2_with fail
  refine V.mono ?_
  rintro e w' ⟨rfl, rfl⟩
  go_wp2
  go_ret
  exact ⟨rfl, rfl⟩
set_option maxHeartbeats 800000 in
theorem force_neg {z : World} {sb hb rb T : Nat} {w : World} {vk : Int → Value} {F : List Int} {R : Int → List Nat} {W : Nat → Wt} {I : List Nat} (h : CS z sb hb rb T w vk F R W I) (x : Int) (x0 : x ≠ 0) (h1 : -100000 ≤ x) (h2 : x ≤ 100000) (hc : ∀ y ∈ F, -y ∉ F) (hx : -x ∈ F) :
    Calls Tryd.prog 141 #[.pointer (some ⟨sb, 0, none⟩), .int .i64 x] w (RetS w (.bool true)) := by
  obtain ⟨t, vF, nR, h⟩ := h
  have V := variable_any x w (by omega) (by omega)
  have hl := h.look (v := (x.natAbs : Int)) (by omega) (by omega)
  rw [(heldF_neg x0 (fun hm => by have := hc _ hm; rwa [Int.neg_neg] at this)).2 hx] at hl
  have c1 := h.c1
  have d1 : (-x == x) = false := by rw [beq_eq_false_iff_ne]; omega
  have d2 : (-x == -x) = true := by simp
  clear hc hx
  go_enter Tryd.func141, Tryd.ntmps141
  go_wp2_with fail
  refine V.mono ?_
  rintro e w' ⟨rfl, rfl⟩
  go_wp2
  go_ret
  exact ⟨rfl, rfl⟩
theorem row_slice {w : World} {b : Nat} {e : TypeId} {s : Nat} {v : Value} {n : Nat} {xs : List Value} (h : w.ownsRow b e s v n xs) : ∃ A c, v = .slice A n c := by
  rcases h.2 with ⟨rfl, rfl⟩ | ⟨g, cap, cur, rfl, _⟩
  · exact ⟨_, _, rfl⟩
  · exact ⟨_, _, rfl⟩
theorem one_cell (v : Value) (h : v.oneCell' = true) : ∀ u ∈ [v], u.oneCell' = true := by intro u hu; simp at hu; subst hu; exact h
set_option maxHeartbeats 1600000 in
theorem force_new {z : World} {sb hb rb T : Nat} {w : World} {vk : Int → Value} {F : List Int} {R : Int → List Nat} {W : Nat → Wt} {I : List Nat} (h : CS z sb hb rb T w vk F R W I) (x : Int) (x0 : x ≠ 0) (h1 : -100000 ≤ x) (h2 : x ≤ 100000) (hF : F.length ≤ 1000000) (hx : x ∉ F) (hn : -x ∉ F) :
    Calls Tryd.prog 141 #[.pointer (some ⟨sb, 0, none⟩), .int .i64 x] w (fun e w' => e = .returned (.bool false) ∧ CS z sb hb rb T w' vk (F ++ [x]) R W I) := by
  obtain ⟨t, vF, nR, h⟩ := h
  have V := variable_any x w (by omega) (by omega)
  have hl := h.look (v := (x.natAbs : Int)) (by omega) (by omega)
  rw [heldF_out hx hn] at hl
  have c1 := h.c1
  have d1 : (0 == x) = false := by rw [beq_eq_false_iff_ne]; omega
  have d2 : (0 == -x) = false := by rw [beq_eq_false_iff_ne]; omega
  obtain ⟨w1, hput, hs1⟩ := h.hput hx hn (by omega) (by omega) (by unfold maxLen; omega)
  have c0 := hs1.c0.1
  have f0 := hs1.c0.2
  obtain ⟨i0, hi0, hz0, hz1, hz2⟩ := info_parts int_info
  have HS := Lib.hid hs1
  have hsz := hs1.bel.size
  have hlt := hs1.lts.1
  clear hs1 h hx hn
  go_enter Tryd.func141, Tryd.ntmps141
  go_wp2_with fail
  refine V.mono ?_
  rintro e w' ⟨rfl, rfl⟩
  clear V
  go_wp2_with (first | (at_builtin; refine wpList_append_own_at _ rfl _ _ 26 rfl z.heap.size 3 i0 (.int .i64 0) 1 8 Tryd.underlying26 hi0 hz0 hz1 hz2 rfl (by omega) vF F.length (F.map (Value.int .i64)) rfl (World.ownsRow.alloc HS.out.oF _) ⟨w1.heap.size, 0, none⟩ 1 1 [.int .i64 x] rfl rfl (cell_one_new _ _ _) (one_cell _ rfl) (by unfold maxLen; omega) (by omega) (by simp; omega) ?_) | go_in)
  intro v' w3 o3 g3 hnil e3
  obtain ⟨A3, c3, rfl⟩ := row_slice o3
  have hs2 := HS.out.nx (World.grownBy_alloc w1 (.cells #[.int .i64 x] 3) none)
  obtain ⟨⟨ca, fa⟩, _, _⟩ := hs2.rec' g3 (fun g e => by rw [hs2.tF g e]; simp)
  obtain ⟨t', hs3⟩ := hs2.fapp o3 g3 (by simpa using e3)
  have H3 := Lib.hid hs3
  clear hs3 hs2 HS o3 g3 e3 hnil
  go_wp2
  go_ret
  exact ⟨rfl, _, _, _, H3.out⟩
end Go.Proofs.YtahedhpffjgimaaDoor
/- wait: pieces. -/
namespace Go.Proofs.YtahedhpffjgimaaDoor
open Go.RowKit
theorem ptr_info : (Tryd.prog.info? 195).map (fun i => (i.zero, i.size, i.bytes)) = some (some (.pointer none), 1, 8) := by kernel_rfl
section
variable {z : World} {sb hb rb T : Nat} {w w' : World} {t : Nat → Tag} {vF : Value} {nR : Nat} {vk : Int → Value} {F G : List Int} {R : Int → List Nat} {W : Nat → Wt} {I : List Nat} {row : Option Nat}
/-- One that waits more. -/
theorem CSx.wnew (h : CSx z sb hb rb T w t vF nR vk F G R W I) (one two : Int) (rest : List Int) (A : Option Addr) (c : Nat) (hr : RI w z.heap.size A rest) (h1 : rest.length ≤ c) (h2 : c ≤ maxLen) :
    CSx z sb hb rb (T + rest.length) (w.alloc (.cells #[.int .i64 one, .int .i64 two, .slice A rest.length c] 197)) (tagPut t w.heap.size .wait) vF nR vk F G R (wtPut W w.heap.size ⟨one, two, rest⟩) (I ++ [w.heap.size]) := by
  have hg := World.grownBy_alloc w (.cells #[.int .i64 one, .int .i64 two, .slice A rest.length c] 197) none
  have h' := (h.retag w.heap.size (Nat.le_refl _) .wait).nx hg
  have hlt : ∀ i ∈ I, i < w.heap.size := fun i hi => World.block_lt_of_cell? w _ (h.wa i hi).2.2.1.1
  have hsz := h.bel.size
  refine ⟨h'.bel, h'.ts, h'.th, h'.tr, h'.bs, h'.bh, h'.br, h'.c0, h'.c1, h'.c2, h'.oF, h'.tF, h'.mh, h'.mr, ?_, h'.oR, h'.tR, ?_, fun k i hi => by simp [h.rI k i hi], h.rl⟩
  · have e : (I.map (fun i => (wtPut W w.heap.size ⟨one, two, rest⟩ i).rest.length)) = I.map (fun i => (W i).rest.length) := by
      apply List.map_congr_left
      intro i hi
      rw [wtPut_other (by have := hlt i hi; omega)]
    rw [List.map_append, List.sum_append, e]
    simp only [List.map_cons, List.map_nil, List.sum_cons, List.sum_nil, wtPut_same]
    have := h.pot
    omega
  · intro i hi
    rcases List.mem_append.1 hi with hi | hi
    · rw [wtPut_other (by have := hlt i hi; omega)]
      exact h'.wa i hi
    · rw [List.mem_singleton.1 hi, wtPut_same]
      refine ⟨tagPut_same _ _ _, hsz, ⟨by go_simp, by go_simp⟩, ⟨by go_simp, by go_simp⟩, A, c, by go_simp, by go_simp, ?_, h1, h2⟩
      exact hr.below ((Below.refl _ _).alloc hsz _)
/-- One that waits is put into a row. -/
theorem CSx.rapp (h : CSx z sb hb rb T w t vF nR vk F G R W I) {k : Int} {i T' : Nat} (hi : i ∈ I) (k1 : -4611686018427387904 ≤ k) (k2 : k ≤ 4611686018427387904) {w3 : World} {v' : Value}
    (o3 : w3.ownsRow z.heap.size 195 1 v' ((R k).length + 1) ((R k).map ptr ++ [ptr i])) (hg : w.grownBy w3 (vk k).ownBlock) (e3 : v'.ownBlock = (vk k).ownBlock ∨ v'.ownBlock = some w.heap.size) (hn : nR < maxLen) (hp : nR + 1 + (I.map (fun i => (W i).rest.length)).sum ≤ T') :
    ∃ w4 t', (Instr.mapUpdate 188 (.map (some rb)) (.int .i64 k) v').run Tryd.prog w3 = .ok () w4 ∧ CSx z sb hb rb T' w4 t' vF (nR + 1) (fun y => if y = k then v' else vk y) F G (rowAdd R k i) W I ∧
      w3.cell? ⟨sb, 2, none⟩ = some (.map (some rb)) ∧ (Instr.lookup 188 (.map (some rb)) (.int .i64 k) false).run Tryd.prog w3 = .ok (vk k) w3 := by
  have h' := h.retag w.heap.size (Nat.le_refl _) (.row k)
  obtain ⟨t', ht'⟩ : ∃ t', t' = tagPut t w.heap.size (.row k) := ⟨_, rfl⟩
  rw [← ht'] at h'
  have hv' : ∀ g, v'.ownBlock = some g → t' g = .row k := by
    intro g hv
    rcases e3 with e | e
    · exact h'.tR k g (e ▸ hv)
    · rw [e] at hv; cases hv; rw [ht']; exact tagPut_same _ _ _
  have hn' : ∀ τ, τ ≠ Tag.row k → ∀ g, (vk k).ownBlock = some g → t' g ≠ τ := by
    intro τ hτ g e; rw [h'.tR k g e]; exact hτ.symm
  have hB : ∀ g, (vk k).ownBlock = some g → z.heap.size ≤ g := fun g e => (World.ownsRow.lt (h.oR k) g e).1
  obtain ⟨a, b, c⟩ := h'.rec' hg (hn' _ (by simp))
  have m3 := h'.rws' hg (hn' _ (by simp))
  obtain ⟨w4, e4, m4, g4⟩ := m3.put Tryd.underlying3 Tryd.underlying188 hn (x := k) (wf_i64_mk k1 k2) v'
  have ms : ∀ τ, τ ≠ Tag.rows → ∀ g, some rb = some g → t' g ≠ τ := by
    intro τ hτ g e; cases e; rw [h'.tr]; exact hτ.symm
  have bB : ∀ g, some rb = some g → z.heap.size ≤ g := by intro g e; cases e; exact h.br
  have hsr : some sb ≠ some rb := fun e => ms .recd (by simp) sb e.symm h'.ts
  have hlt := World.block_lt_of_cell? w3 _ b
  refine ⟨w4, t', e4, ⟨below_grown (below_grown h.bel hg hB) g4 bB, h'.ts, h'.th, h'.tr, h.bs, h.bh, h.br, ⟨g4.cell a.1 hsr, (World.frozen?_of_block (g4.block sb hlt hsr)).trans a.2⟩, g4.cell b hsr, g4.cell c hsr, ?_, h'.tF, ?_, m4, hp, ?_, ?_, ?_, ?_, ?_⟩, c, m3.get Tryd.underlying3 Tryd.underlying188 (zero70 _) (wf_i64_mk k1 k2)⟩
  · refine World.ownsRow.kept (h'.frc' hg (hn' _ (by simp))) g4 ?_
    cases hv : vF.ownBlock with
    | none => exact .inl rfl
    | some g => exact .inr (fun e => ms .forced (by simp) g e.symm (h'.tF g hv))
  · exact (h'.hld' hg (hn' _ (by simp))).kept g4 (fun e => ms .held (by simp) hb e.symm h'.th)
  · intro y
    show w4.ownsRow z.heap.size 195 1 (if y = k then v' else vk y) (rowAdd R k i y).length ((rowAdd R k i y).map ptr)
    unfold rowAdd
    by_cases e : y = k
    · subst e
      rw [if_pos rfl, if_pos rfl]
      refine World.ownsRow.kept (by simpa using o3) g4 ?_
      cases hv : v'.ownBlock with
      | none => exact .inl rfl
      | some g => exact .inr (fun e => ms (.row y) (by simp) g e.symm (hv' g hv))
    · rw [if_neg e, if_neg e]
      refine World.ownsRow.kept (h'.row' hg y (hn' _ (by simp; exact e))) g4 ?_
      cases hv : (vk y).ownBlock with
      | none => exact .inl rfl
      | some g => exact .inr (fun e => ms (.row y) (by simp) g e.symm (h'.tR y g hv))
  · intro y g
    show (if y = k then v' else vk y).ownBlock = some g → t' g = .row y
    by_cases e : y = k
    · subst e; rw [if_pos rfl]; exact hv' g
    · rw [if_neg e]; exact h'.tR y g
  · intro j hj
    obtain ⟨p1, p2, p3⟩ := h'.wats' hg hB (hn' _ (by simp)) j hj
    exact ⟨p1, p2, p3.kept g4 (fun e => ms .wait (by simp) j e.symm p1) bB⟩
  · intro y j hj
    rcases mem_rowAdd.1 hj with h1 | ⟨_, h1⟩
    · exact h.rI y j h1
    · rw [h1]; exact hi
  · intro y
    have := h.rl y
    unfold rowAdd
    split <;> simp <;> omega
theorem gdr (w : World) : w.grownBy w.drew none := ⟨rfl, rfl, rfl, Nat.le_refl _, fun _ _ _ => rfl⟩
/-- 'append' in a region that draws, ahead of the store into the map. -/
theorem step_rows {ops : Array Oper} {o : Oper} {a : Act} {K : Act → World → Prop} {Q : Exit → Act → World → Prop} {E : Prop} {w2 : World}
    (hg : o.guard = none) (s x : Operand) (hop : o.op = Op.call { callee := Callee.builtin Builtin.append, args := #[s, x], argTypes := #[194, 194] })
    (h : CSx z sb hb rb T w t vF nR vk F G R W I) (hw : w.grownBy w2 none) {k : Int} {i T' : Nat} (hi : i ∈ I) (k1 : -4611686018427387904 ≤ k) (k2 : k ≤ 4611686018427387904) (hn : nR ≤ 100000000) (hp : nR + 1 + (I.map (fun i => (W i).rest.length)).sum ≤ T')
    (hs : a.eval s = vk k) (H : Nat) (hx : a.eval x = .slice (some ⟨H, 0, none⟩) 1 1) (hc : w2.cell? ⟨H, 0, none⟩ = some (ptr i))
    (hK : ∀ v' w3 w4 t', (Instr.mapUpdate 188 (.map (some rb)) (.int .i64 k) v').run Tryd.prog w3 = .ok () w4 → CSx z sb hb rb T' w4 t' vF (nR + 1) (fun y => if y = k then v' else vk y) F G (rowAdd R k i) W I →
      w3.cell? ⟨sb, 2, none⟩ = some (.map (some rb)) → (Instr.lookup 188 (.map (some rb)) (.int .i64 k) false).run Tryd.prog w3 = .ok (vk k) w3 → K (a.put o.dst v') w3) :
    if Region.wanted o (yielded ops a.tmps) = true then Oper.wp Tryd.prog o a w2 K Q else E := by
  have hwt : Region.wanted o (yielded ops a.tmps) = true := by simp [Region.wanted, hg]
  rw [if_pos hwt]
  have h2 := h.nx hw
  obtain ⟨i0, hi0, hz0, hz1, hz2⟩ := info_parts ptr_info
  have hb2 := h2.bel.size
  have hl := h2.rl k
  have hcell : ∀ j u, [ptr i][j]? = some u → w2.cell? ((⟨H, 0, none⟩ : Addr).add j) = some u := by
    intro j u hj
    match j, hj with
    | 0, hj => simp at hj; subst hj; rw [add_loc]; exact hc
  obtain ⟨v', w3, hr, o3, g3, _, e3⟩ := run_append_own_at (P := Tryd.prog) w2 z.heap.size 194 o.type 195 i0 (.pointer none) 1 8 Tryd.underlying194 hi0 hz0 hz1 hz2 rfl (by omega) (vk k) (R k).length ((R k).map ptr) (h2.oR k) ⟨H, 0, none⟩ 1 1 [ptr i] rfl hcell (one_cell _ rfl) (by unfold maxLen; omega) (by omega) hb2
  obtain ⟨w4, t', e4, s4, q1, q2⟩ := h2.rapp hi k1 k2 o3 g3 e3 (by unfold maxLen; omega) hp
  unfold Oper.wp execOp
  simp only [hop, resolve, invoke, builtin, Sem.run_bind, Sem.run_pure, Result.andThen_ok, List.map_toArray, List.map_cons, List.map_nil, hs, hx, hr]
  exact hK v' w3 w4 t' e4 s4 q1 q2
end
end Go.Proofs.YtahedhpffjgimaaDoor
/- wait. -/
namespace Go.Proofs.YtahedhpffjgimaaDoor
open Go.RowKit
set_option maxHeartbeats 4000000 in
set_option maxRecDepth 100000 in
theorem wait_any {z : World} {sb hb rb T : Nat} {w : World} {vk : Int → Value} {F : List Int} {R : Int → List Nat} {W : Nat → Wt} {I : List Nat} (h : CS z sb hb rb T w vk F R W I) (one two : Int) (h1 : -100000 ≤ one) (h2 : one ≤ 100000) (h3 : -100000 ≤ two) (h4 : two ≤ 100000) (rest : List Int) (A : Option Addr) (c : Nat) (hr : RI w z.heap.size A rest) (hc : rest.length ≤ c) (hm : c ≤ maxLen) (hT : T ≤ 10000000) :
    Calls Tryd.prog 144 #[.pointer (some ⟨sb, 0, none⟩), .int .i64 one, .int .i64 two, .slice A rest.length c] w (fun e w' => e = .returned (.tuple #[]) ∧ ∃ vk', CS z sb hb rb (T + rest.length + 2) w' vk' F (rowAdd (rowAdd R one w.heap.size) two w.heap.size) (wtPut W w.heap.size ⟨one, two, rest⟩) (I ++ [w.heap.size])) := by
  obtain ⟨t, vF, nR, h⟩ := h
  have s1 := h.wnew one two rest A c hr hc hm
  have hpot := h.pot
  have hpot1 := s1.pot
  have hmem : w.heap.size ∈ I ++ [w.heap.size] := by simp
  have HM := Lib.hid hmem
  have hsz := h.lts.1
  clear h hr
  generalize hw1 : w.alloc (.cells #[.int .i64 one, .int .i64 two, .slice A rest.length c] 197) = w1 at s1
  have HW := Lib.hid hw1
  have KS : Hid (∀ w', w1.grownBy w' none → w'.cell? ⟨sb, 2, none⟩ = some (.map (some rb))) := fun w' hg => (s1.nx hg).c2
  have KL : ∀ w', w1.grownBy w' none → (Instr.lookup 188 (.map (some rb)) (.int .i64 one) false).run Tryd.prog w' = .ok (vk one) w' := fun w' hg => (s1.nx hg).lookR (by omega) (by omega)
  have L1 := KL _ (gdr _)
  have L2 := KL _ ((World.grownBy_alloc w1 (.cells #[.pointer (some ⟨w.heap.size, 0, none⟩)] 195) none).trans (gdr _))
  have HS := Lib.hid s1
  clear s1 hw1 hmem KL
  go_enter Tryd.func144, Tryd.ntmps144
  go_wp2
  rw [HW.out]
  go_region_held3 (fun w' => w'.cell? ⟨sb, 2, none⟩ = some (.map (some rb)))
    (first | exact KS.out _ (gdr _) | exact KS.out _ ((gdr _).trans (World.grownBy_alloc _ _ _)) | exact KS.out _ ((World.grownBy_alloc _ _ _).trans (gdr _)) | assumption | exact hs4.c2)
    ((refine step_rows (T' := T + rest.length + 1) (by rfl) _ _ (by rfl) HS.out (by first | exact gdr _ | exact (gdr _).trans (World.grownBy_alloc _ _ _) | exact (World.grownBy_alloc _ _ _).trans (gdr _)) HM.out (k := one) (by omega) (by omega) (by omega) (by omega) (by rfl) w1.heap.size (by rfl) (by unfold ptr; go_simp) ?_; intro v' w3 w4 t' hup hs4 hq1 hq2))
  all_goals
    have hpot2 := hs4.pot
    have K2 : Hid (∀ w', w4.grownBy w' none → w'.cell? ⟨sb, 2, none⟩ = some (.map (some rb))) := fun w' hg => (hs4.nx hg).c2
    have KL : ∀ w', w4.grownBy w' none → (Instr.lookup 188 (.map (some rb)) (.int .i64 two) false).run Tryd.prog w' = .ok ((fun y => if y = one then v' else vk y) two) w' := fun w' hg => (hs4.nx hg).lookR (by omega) (by omega)
    obtain ⟨vk1, hvk⟩ : ∃ f : Int → Value, f = (fun y => if y = one then v' else vk y) := ⟨_, rfl⟩
    rw [← hvk] at hs4 KL
    have M1 := KL _ (gdr _)
    have M2 := KL _ ((World.grownBy_alloc w4 (.cells #[.pointer (some ⟨w.heap.size, 0, none⟩)] 195) none).trans (gdr _))
    have H4 := Lib.hid hs4
    clear hs4 KL hvk hup hq1 hq2 L1 L2 KS HS
    go_wp2
    go_region_held3 (fun w' => w'.cell? ⟨sb, 2, none⟩ = some (.map (some rb)))
      (first | exact K2.out _ (gdr _) | exact K2.out _ ((gdr _).trans (World.grownBy_alloc _ _ _)) | exact K2.out _ ((World.grownBy_alloc _ _ _).trans (gdr _)) | assumption | exact hs5.c2)
      ((refine step_rows (T' := T + rest.length + 2) (by rfl) _ _ (by rfl) H4.out (by first | exact gdr _ | exact (gdr _).trans (World.grownBy_alloc _ _ _) | exact (World.grownBy_alloc _ _ _).trans (gdr _)) HM.out (k := two) (by omega) (by omega) (by omega) (by omega) (by rfl) w4.heap.size (by rfl) (by unfold ptr; go_simp) ?_; intro v2 w5 w6 t2 hup2 hs5 hq3 hq4))
  all_goals
    have H5 := Lib.hid hs5
    clear hs5 hup2 hq3 hq4
    go_wp2
    go_end0
    exact ⟨rfl, _, _, _, _, H5.out⟩
end Go.Proofs.YtahedhpffjgimaaDoor
/- Slices of slices. -/
namespace Go.Proofs.YtahedhpffjgimaaDoor
open Go.RowKit
def cutU (A : Option Addr) (c k : Nat) : Option Addr := if c = k then A else A.map (·.add k)
theorem RI.cut {w : World} {B : Nat} {A : Option Addr} {l : List Int} (h : RI w B A l) {k c : Nat} (hc : l.length ≤ c) : RI w B (cutU A c k) (l.drop k) := by
  intro i hi
  simp only [List.length_drop] at hi
  obtain ⟨ad, rfl, hb, hcell⟩ := h (k + i) (by omega)
  refine ⟨ad.add k, by simp [cutU]; omega, by rw [block_add]; exact hb, ?_⟩
  rw [add_add_, hcell]
  have e : (l.drop k).getD i 0 = l.getD (k + i) 0 := by
    simp only [List.getD_eq_getElem?_getD, List.getElem?_drop]
  rw [e]
/-- The clauses' slices have room for what they hold. -/
def RK (w : World) (B : Nat) (A : Option Addr) (L : List (List Int)) : Prop :=
  ∀ i, i < L.length → ∃ ad A' c', A = some ad ∧ ad.block < B ∧ w.cell? (ad.add i) = some (.slice A' (L.getD i []).length c') ∧ (L.getD i []).length ≤ c' ∧ c' ≤ maxLen
theorem RK.below {w w' : World} {B : Nat} {A : Option Addr} {L : List (List Int)} (h : RK w B A L) (hb : Below B w w') : RK w' B A L := by
  intro i hi
  obtain ⟨ad, A', c', e, hlt, hc, hr⟩ := h i hi
  exact ⟨ad, A', c', e, hlt, (hb.cell (by rw [block_add]; exact hlt)).trans hc, hr⟩
theorem RK.mono {w : World} {B B' : Nat} {A : Option Addr} {L : List (List Int)} (h : RK w B A L) (hB : B ≤ B') : RK w B' A L := by
  intro i hi
  obtain ⟨ad, A', c', e, hlt, hc, hr⟩ := h i hi
  exact ⟨ad, A', c', e, by omega, hc, hr⟩
theorem RK.nx {w w' : World} {A : Option Addr} {L : List (List Int)} (h : RK w w.heap.size A L) (hb : Below w.heap.size w w') : RK w' w'.heap.size A L := (h.below hb).mono hb.size
theorem el23 : Tryd.prog.elem 26 = 3 := by kernel_rfl
theorem u26 : Tryd.prog.underlying 26 = some (.slice (Tryd.prog.elem 26)) := by kernel_rfl
theorem run_size3 (w : World) : (sizeOf 3).run Tryd.prog w = .ok 1 w := by kernel_rfl
theorem sliceU_l (A : Option Addr) (n c k : Nat) (h0 : k ≤ n) (w : World) :
    (Instr.slice 26 (.slice A n c) (some (.int .i64 k)) none none).run Tryd.prog w = .ok (.slice (cutU A c k) (n - k) (c - k)) w := by
  rw [run_slice_l w 26 A n c u26 .i64 k (by omega) (by omega), el23, run_size3]
  simp [Result.andThen, sliced, cutU]
end Go.Proofs.YtahedhpffjgimaaDoor
/- Rows of numbers none of which is there twice are short; what is seen of a clause that is entered. No conditions. -/
namespace Go.Proofs.YtahedhpffjgimaaDoor
theorem nodup_le (n : Nat) : ∀ (l : List Int) (a : Int), l.Nodup → (∀ x ∈ l, a ≤ x ∧ x < a + n) → l.length ≤ n := by
  induction n with
  | zero =>
    intro l a _ h
    match l with
    | [] => simp
    | x :: _ => have := h x (by simp); omega
  | succ n ih =>
    intro l a hn h
    by_cases hm : (a + n) ∈ l
    · have h1 := ih (l.erase (a + n)) a (hn.erase _) (by
        intro x hx
        rw [hn.mem_erase_iff] at hx
        have := h x hx.2
        omega)
      rw [List.length_erase_of_mem hm] at h1
      omega
    · have h1 := ih l a hn (by
        intro x hx
        have := h x hx
        have : x ≠ a + n := fun e => hm (e ▸ hx)
        omega)
      omega
/-- Literals of at most 100000 variables. -/
def Lits (c : List Int) : Prop := ∀ y ∈ c, y ≠ 0 ∧ -100000 ≤ y ∧ y ≤ 100000
theorem Forced.lit {L : List (List Int)} {A : List Int} (hL : ∀ c ∈ L, Lits c) (hA : Lits A) {x : Int} (h : Forced L A x) : x ≠ 0 ∧ -100000 ≤ x ∧ x ≤ 100000 := by
  cases h with
  | given _ h => exact hA x h
  | unit c _ hc hx _ => exact hL c hc x hx
theorem Inv.len {L E : List (List Int)} {A D : List Int} {x : Int} {S : List Nat} {F : List Int} {R : Int → List Nat} {W : Nat → Wt} (h : Inv L E A D x S F R W) (hL : ∀ c ∈ L, Lits c) (hA : Lits A) : F.length ≤ 200001 :=
  nodup_le 200001 F (-100000) h.fnod (fun z hz => by have := (h.sound z hz).lit hL hA; omega)
/-- What is seen of the first k literals of a clause. -/
def Seen (F u : List Int) (k : Nat) (one : Int) : Prop :=
  (∀ y ∈ u.take k, y = one ∨ -y ∈ F) ∧ (one = 0 ∨ (one ∈ u ∧ one ∉ F ∧ -one ∉ F))
theorem Seen.first (F u : List Int) : Seen F u 0 0 := ⟨by simp, .inl rfl⟩
theorem take_snocI (u : List Int) (k : Nat) (h : k < u.length) : u.take (k + 1) = u.take k ++ [u.getD k 0] := by
  rw [List.take_succ_eq_append_getElem h]; simp [List.getD, h]
theorem Seen.next {F u : List Int} {k : Nat} {one : Int} (h : Seen F u k one) (hk : k < u.length) (hx : u.getD k 0 = one ∨ -(u.getD k 0) ∈ F) : Seen F u (k + 1) one := by
  refine ⟨?_, h.2⟩
  rw [take_snocI u k hk]
  intro y hy
  rcases List.mem_append.1 hy with h' | h'
  · exact h.1 y h'
  · rw [List.mem_singleton.1 h']; exact hx
theorem getD_mem (u : List Int) (k : Nat) (hk : k < u.length) : u.getD k 0 ∈ u := by
  simp [List.getD_eq_getElem?_getD, hk]
theorem Seen.set {F u : List Int} {k : Nat} (h : Seen F u k 0) (hu : Lits u) (hk : k < u.length) (h1 : u.getD k 0 ∉ F) (h2 : -(u.getD k 0) ∉ F) : Seen F u (k + 1) (u.getD k 0) := by
  refine ⟨?_, .inr ⟨getD_mem u k hk, h1, h2⟩⟩
  rw [take_snocI u k hk]
  intro y hy
  rcases List.mem_append.1 hy with h' | h'
  · rcases h.1 y h' with e | e
    · exact absurd e (hu y (List.mem_of_mem_take h')).1
    · exact .inr e
  · rw [List.mem_singleton.1 h']; exact .inl rfl
theorem Seen.none {F u : List Int} (h : Seen F u u.length 0) (hu : Lits u) : ∀ y ∈ u, -y ∈ F := by
  intro y hy
  rcases h.1 y (by rw [List.take_length]; exact hy) with e | e
  · exact absurd e (hu y hy).1
  · exact e
theorem Seen.cov {F u : List Int} {k : Nat} {one : Int} (h : Seen F u k one) (hk : k < u.length) : ∀ y ∈ u, y = one ∨ y = u.getD k 0 ∨ y ∈ u.drop (k + 1) ∨ -y ∈ F := by
  intro y hy
  have e : u = u.take k ++ (u.getD k 0 :: u.drop (k + 1)) := by
    have : u.drop k = u.getD k 0 :: u.drop (k + 1) := by rw [List.drop_eq_getElem_cons hk]; simp [List.getD, hk]
    rw [← this, List.take_append_drop]
  rw [e] at hy
  rcases List.mem_append.1 hy with h' | h'
  · rcases h.1 y h' with e | e
    · exact .inl e
    · exact .inr (.inr (.inr e))
  · rcases List.mem_cons.1 h' with h' | h'
    · exact .inr (.inl h')
    · exact .inr (.inr (.inl h'))
/-- What the clauses add to those that wait. -/
def tot (L : List (List Int)) : Nat := (L.map (fun c => c.length + 2)).sum
theorem take_snocC (L : List (List Int)) (k : Nat) (h : k < L.length) : L.take (k + 1) = L.take k ++ [L.getD k []] := by
  rw [List.take_succ_eq_append_getElem h]; simp [List.getD, h]
theorem tot_snoc (L : List (List Int)) (c : List Int) : tot (L ++ [c]) = tot L + (c.length + 2) := by simp [tot]
theorem tot_take (L : List (List Int)) (k : Nat) : tot (L.take k) ≤ tot L := by
  have := List.take_append_drop k L
  have e : tot L = tot (L.take k) + tot (L.drop k) := by
    have h2 : tot (L.take k ++ L.drop k) = tot (L.take k) + tot (L.drop k) := by
      generalize L.take k = a
      generalize L.drop k = b
      simp [tot]
    rw [this] at h2
    exact h2
  omega
theorem getD_memC (L : List (List Int)) (k : Nat) (hk : k < L.length) : L.getD k [] ∈ L := by
  simp [List.getD_eq_getElem?_getD, hk]
end Go.Proofs.YtahedhpffjgimaaDoor
