/-
  Refutes.
-/
import Derived.Test.YtlebagdildpkmaaProg
import Derived.WalkKit
import Derived.WalkSpells
import Derived.WalkLawsBesides
import Derived.Lib.Hide
import Derived.BigQuiet
import Derived.Deep.QuietTactic
import Derived.Deep.RegionWith
import Derived.Deep.RegionHeld3
import Derived.Test.YtlebagdildpkmaaB5
import Derived.Laws.OwnMore
import Derived.Deep.LoopGhost
set_option linter.unusedVariables false
namespace Go.Proofs.Ytlebagdildpkmaa
open Go.RowKit
/-- The literals the other way round. -/
def negC (c : List Int) : List Int := c.map (- ·)
theorem negC_len (c : List Int) : (negC c).length = c.length := by simp [negC]
def rowN (c : List Int) (k : Nat) : List Int := negC (c.take k) ++ List.replicate (c.length - k) 0
theorem rowN_len (c : List Int) (k : Nat) (h : k ≤ c.length) : (rowN c k).length = c.length := by simp [rowN, negC]; omega
theorem rowN_next (c : List Int) (k : Nat) (h : k < c.length) : rowN c (k + 1) = (rowN c k).set k (-(c.getD k 0)) := by
  unfold rowN
  rw [take_snocI c k h, show c.length - k = (c.length - (k + 1)) + 1 by omega, List.replicate_succ]
  have hl : (negC (c.take k)).length = k := by simp [negC]; omega
  rw [List.set_append_right _ _ (by omega), hl]
  simp [negC]
theorem rowN_full (c : List Int) : rowN c c.length = negC c := by simp [rowN]
theorem OwnI.store {w : World} {base g n cap : Nat} {l : List Int} (hl : l.length = n) (h : OwnI w base (.slice (some ⟨g, 0, none⟩) n cap) l) :
    base ≤ g ∧ ∀ j, j < n → (∃ u, w.cell? ⟨g, j, none⟩ = some u) ∧ w.frozen? ⟨g, j, none⟩ = false ∧ ∀ y : Int, OwnI (w.setCell ⟨g, j, none⟩ (.int .i64 y)) base (.slice (some ⟨g, 0, none⟩) n cap) (l.set j y) := by
  unfold OwnI at *
  subst hl
  refine ⟨(World.ownsRow.lt h g rfl).1, fun j hj => ⟨?_, World.ownsRow.frozenAt h j, fun y => ?_⟩⟩
  · have := World.ownsRow.cellAt h j (by omega)
    exact ⟨_, this.trans (List.getElem?_eq_getElem (by simpa using hj))⟩
  · have := (World.ownsRow.stored h j (.int .i64 y)).1
    rw [List.length_set, List.map_set]
    exact this
theorem neg_lits {c : List Int} (h : Lits c) : Lits (negC c) := by
  intro y hy
  obtain ⟨x, hx, rfl⟩ := List.mem_map.1 hy
  have := h x hx
  refine ⟨?_, ?_, ?_⟩ <;> omega
set_option maxHeartbeats 2000000 in
theorem Refutes_any (LA AA : Option Addr) (k k' : Nat) (n : Int) (L : List (List Int)) (c : List Int) (w : World) (hL : RCk w w.heap.size LA L) (hR : RI w w.heap.size AA c) (hm : May L c) :
    Calls Try.prog 15 #[.int .i64 n, .slice LA L.length k, .slice AA c.length k'] w (RetV w (.bool (clashB L (negC c)))) := by
  obtain ⟨i0, hi0, hz0, hz1, hz2⟩ := info_parts int_info
  have hlen := hm.alen
  obtain ⟨w1, hmk, ho1, hg1⟩ := run_makeSlice_full (P := Try.prog) (w := w) w.heap.size 23 3 i0 (.int .i64 0) 1 Try.underlying23 hi0 hz0 hz1 .i64 .i64 c.length (by omega) (by rw [hz2]; omega) (by unfold maxLen; omega) (Nat.le_refl _)
  have hb1 : Below w.heap.size w w1 := (Below.refl _ _).grown hg1 (Nat.le_refl _) (by intro k hk; cases hk)
  have hown : OwnI w1 w.heap.size (.slice (some ⟨w.heap.size, 0, none⟩) c.length c.length) (rowN c 0) := by
    unfold OwnI
    rw [rowN_len c 0 (by omega)]
    have e : (madeCells (Value.int IntKind.i64 0).cells (c.length * 1)).toList = (rowN c 0).map (Value.int .i64) := by
      rw [Nat.mul_one]
      show (madeCells #[.int .i64 0] c.length).toList = _
      rw [toList_madeCells_one]
      simp [rowN, negC]
    rw [← e]; exact ho1
  have HL := Lib.hid hL
  have HR := Lib.hid hR
  have HM := Lib.hid hm
  have H0 := Lib.hid (And.intro hown hb1)
  clear hL hR hm hown hb1 ho1 hg1
  go_enter Try.func15, Try.ntmps15
  go_wp2
  clear hmk
  go_loopg [17] c.length (fun g s17 wr => ∃ j : Nat, j + g = c.length ∧ s17 = .int .i64 j ∧ OwnI wr w.heap.size (.slice (some ⟨w.heap.size, 0, none⟩) c.length c.length) (rowN c j) ∧ Below w.heap.size w wr)
  case atStart => exact ⟨0, by omega, rfl, H0.out.1, H0.out.2⟩
  case round =>
    obtain ⟨j, hj, rfl, hown, hb⟩ := hrel
    clear H0
    cases gk with
    | zero =>
      obtain rfl : j = c.length := by omega
      have n1 : ¬ ((c.length : Int) < c.length) := by omega
      have n2 : ¬ (c.length < c.length) := by omega
      rw [rowN_full] at hown
      obtain ⟨A1, c1, e1, hri, _⟩ := hown.val
      rw [negC_len] at e1
      cases e1
      have C := closeUp_any LA (some ⟨w.heap.size, 0, none⟩) k c.length L (negC c) wr (HL.out.nx hb) hri HM.out.lits (neg_lits HM.out.alit) HM.out.tot HM.out.len HM.out.lens (by rw [negC_len]; exact HM.out.alen)
      rw [negC_len] at C
      have HB := Lib.hid hb
      clear hown hb hri
      go_wp2_with fail
      refine C.mono ?_
      clear C
      rintro e w2 hq
      rcases hq with ⟨rfl, hcl, hb1⟩ | ⟨vF, F, rfl, hown, hcl, hnd, hb1⟩
      · have HCB := Lib.hid ((clashB_iff L (negC c)).2 hcl)
        have HB2 := Lib.hid (bnx HB.out hb1)
        clear hcl hb1
        go_wp2
        go_ret
        exact ⟨by rw [HCB.out]; rfl, HB2.out⟩
      · have HCB := Lib.hid hcl.no
        have HB2 := Lib.hid (bnx HB.out hb1)
        clear hcl hb1 hown hnd
        go_wp2
        go_ret
        exact ⟨by rw [HCB.out]; rfl, HB2.out⟩
    | succ g =>
      have hjl : j < c.length := by omega
      obtain ⟨ad, rfl, hab, hcz⟩ := HR.out j hjl
      have hcc := (hb.cell (p := ad.add j) (by rw [block_add]; exact hab)).trans hcz
      obtain ⟨hbg, hst⟩ := hown.store (rowN_len c j (by omega))
      obtain ⟨⟨u, hu⟩, hf, hset⟩ := hst j hjl
      have hbd := HM.out.alit _ (getD_mem c j hjl)
      have hs := hset (-(c.getD j 0))
      rw [← rowN_next c j hjl] at hs
      have HS := Lib.hid hs
      have HB := Lib.hid (hb.setCell (p := ⟨w.heap.size, j, none⟩) hbg (.int .i64 (-(c.getD j 0))))
      have hjl' : (j : Int) < c.length := by omega
      clear hcz hown hst hset hs hb
      generalize c.getD j 0 = x at *
      go_wp2
      go_roundg g
      case measure => omega
      case rel => exact ⟨j + 1, by omega, by go_num, HS.out, HB.out⟩
end Go.Proofs.Ytlebagdildpkmaa
