/-
  cnf.PrintModel over the translated program.
-/
import Derived.Test.YtplcabecbofjpaaDoorProg
import Derived.WalkKit
import Derived.WalkSpells
import Derived.WalkLawsBesides
import Derived.Lib.Hide
import Derived.BigQuiet
import Derived.Deep.QuietTactic
import Derived.Deep.RegionWith
import Derived.Deep.RegionHeld3
import Derived.Test.YtplcabecbofjpaaDoorS11
set_option linter.unusedVariables false
namespace Go.Proofs.YtplcabecbofjpaaDoor
open Go.RowKit
/-- Variable i's literal that is true in m. -/
def litAt (m : List Bool) (i : Nat) : Int := if m.getD i false then (i : Int) + 1 else -((i : Int) + 1)
def rowM (m : List Bool) (j : Nat) : List Int := (List.range m.length).map (fun i => if i < j then litAt m i else 0)
def modL (m : List Bool) : List Int := (List.range m.length).map (litAt m)
def modS (m : List Bool) : List UInt8 := [118, 32] ++ tellS (modL m)
theorem rowM_len (m : List Bool) (j : Nat) : (rowM m j).length = m.length := by simp [rowM]
theorem rowM_zero (m : List Bool) : rowM m 0 = List.replicate m.length 0 := by
  apply List.ext_getElem
  · simp [rowM]
  · intro i h1 h2; simp [rowM]
theorem rowM_full (m : List Bool) : rowM m m.length = modL m := by
  unfold rowM modL
  apply List.map_congr_left
  intro i hi
  rw [if_pos (by simpa using hi)]
theorem rowM_next (m : List Bool) (j : Nat) (hj : j < m.length) : rowM m (j + 1) = (rowM m j).set j (litAt m j) := by
  apply List.ext_getElem
  · simp [rowM]
  · intro i h1 h2
    simp only [rowM, List.getElem_map, List.getElem_range, List.getElem_set]
    by_cases e : j = i
    · subst e; simp
    · rw [if_neg e]
      by_cases h : i < j
      · rw [if_pos (by omega), if_pos h]
      · rw [if_neg (by omega), if_neg h]
/-- Block g holds the numbers l, from its beginning on, and may be written. -/
def Iq (w : World) (g : Nat) (l : List Int) : Prop := ∀ i, i < l.length → w.cell? ⟨g, i, none⟩ = some (.int .i64 (l.getD i 0)) ∧ w.frozen? ⟨g, i, none⟩ = false
theorem Iq.below {w w' : World} {B g : Nat} {l : List Int} (h : Iq w g l) (hb : Below B w w') (hg : g < B) : Iq w' g l := fun i hi =>
  ⟨(hb.cell (p := ⟨g, i, none⟩) hg).trans (h i hi).1, (hb.frozen (p := ⟨g, i, none⟩) hg).trans (h i hi).2⟩
theorem Iq.store {w : World} {g : Nat} {l : List Int} (h : Iq w g l) (m : Nat) (hm : m < l.length) (x : Int) : Iq (w.setCell ⟨g, m, none⟩ (.int .i64 x)) g (l.set m x) := by
  intro i hi
  rw [List.length_set] at hi
  refine ⟨?_, by simp [(h i hi).2]⟩
  by_cases he : m = i
  · subst he
    have e : (l.set m x).getD m 0 = x := by simp [List.getD_eq_getElem?_getD, hm]
    rw [e]
    exact World.cell?_setCell_same _ _ _ (h m hm).1
  · have e : (l.set m x).getD i 0 = l.getD i 0 := by simp [List.getD_eq_getElem?_getD, he]
    rw [e, World.cell?_setCell_other _ _ _ _ (fun e => he (congrArg Addr.off e))]
    exact (h i hi).1
def mkO (n : Nat) : Obj := .cells (madeCells #[.int .i64 0] n) 3
theorem mkI (n : Nat) (hn : n ≤ 1000000) (w : World) : (Instr.makeSlice 50 (.int .i64 (n : Int)) (.int .i64 (n : Int))).run Tryd.prog w = .ok (.slice (some ⟨w.heap.size, 0, none⟩) n n) (w.alloc (mkO n)) := by
  obtain ⟨i0, hi0, hz0, hz1, hz2⟩ := info_parts int_info
  rw [run_make w 50 3 i0 _ Tryd.underlying50 hi0 hz0 .i64 .i64 n n (by omega) (by omega) (by rw [hz2]; omega) (by omega), hz1]
  simp [Value.cells, mkO]
theorem iq_made (w : World) (n : Nat) : Iq (w.alloc (mkO n)) w.heap.size (List.replicate n 0) := by
  intro i hi
  unfold mkO
  simp only [List.length_replicate] at hi
  have hb := (MapKept.heap_alloc w (.cells (madeCells #[.int .i64 0] n) 3)).1
  constructor
  · have hl := toList_madeCells_one (.int .i64 0) n
    simp only [World.cell?, hb]
    have e1 : (madeCells #[Value.int .i64 0] n)[i]? = some (.int .i64 0) := by
      rw [← Array.getElem?_toList, hl]; simp [hi]
    have e2 : (List.replicate n (0 : Int)).getD i 0 = 0 := by simp [List.getD_eq_getElem?_getD, hi]
    rw [e2]
    simpa using e1
  · go_simp
theorem Iq.ri {w : World} {B g : Nat} {l : List Int} (h : Iq w g l) (hg : g < B) : RI w B (some ⟨g, 0, none⟩) l := fun i hi => ⟨_, rfl, hg, by rw [add_loc]; exact (h i hi).1⟩
theorem litAt_bd (m : List Bool) (i : Nat) (h : i < 1000000) : -9223372036854775808 ≤ litAt m i ∧ litAt m i ≤ 9223372036854775807 := by unfold litAt; split <;> omega
set_option maxHeartbeats 2000000 in
set_option maxRecDepth 100000 in
theorem PrintModel_any (A : Option Addr) (c : Nat) (m : List Bool) (w : World) (h : RB w w.heap.size A m) (hm : m.length ≤ 100000) (hP : Pow w.heap.size w) :
    Calls Tryd.prog 27 #[.slice A m.length c] w (RetV w (.string ⟨(modS m).toArray⟩)) := by
  have hmk := mkI m.length (by omega)
  have H0 := Lib.hid (iq_made w m.length)
  rw [← rowM_zero] at H0
  have HR := Lib.hid h
  have HP := Lib.hid hP
  have HB0 := Lib.hid (bal (Below.refl w.heap.size w) (mkO m.length))
  clear h hP
  go_enter Tryd.func27, Tryd.ntmps27
  go_wp2
  clear hmk
  go_loopw [12] (fun i wr => ∃ j : Nat, j ≤ m.length ∧ i = .int .i64 j ∧ Iq wr w.heap.size (rowM m j) ∧ Below w.heap.size w wr ∧ w.heap.size < wr.heap.size) (fun i _ => m.length - (intOf i).toNat)
  case atStart => exact ⟨0, Nat.zero_le _, rfl, H0.out, HB0.out, by simp⟩
  case round =>
    obtain ⟨j, hj, rfl, hq, hB, hs⟩ := hrel
    clear H0 HB0
    by_cases hlt : j < m.length
    · obtain ⟨ad, rfl, hbk, hc⟩ := (HR.out.below hB) j hlt
      have hrl := rowM_len m j
      have hq1 := hq.store j (by omega) ((j : Int) + 1)
      obtain ⟨x1, x2⟩ := hq j (by omega)
      have hnx := rowM_next m j hlt
      unfold litAt at hnx
      generalize m.getD j false = b at *
      cases b
      · have hq2 := hq1.store j (by rw [List.length_set]; omega) (-((j : Int) + 1))
        rw [List.set_set, if_neg (by simp)] at *
        have HE : Hid (Iq ((wr.setCell ⟨w.heap.size, j, none⟩ (.int .i64 ((j : Int) + 1))).setCell ⟨w.heap.size, j, none⟩ (.int .i64 (-((j : Int) + 1)))) w.heap.size (rowM m (j + 1))) := by show Iq _ _ _; rw [hnx]; exact hq2
        have HB := Lib.hid hB
        clear hnx hq hq1 hq2 hrl hB
        go_wp2
        go_roundw
        case rel => exact ⟨j + 1, by omega, by go_num, HE.out, (HB.out.setCell (by simp) _).setCell (by simp) _, by simpa using hs⟩
        case measure => simp [intOf]; omega
      · rw [if_pos rfl] at hnx
        have HE : Hid (Iq (wr.setCell ⟨w.heap.size, j, none⟩ (.int .i64 ((j : Int) + 1))) w.heap.size (rowM m (j + 1))) := by show Iq _ _ _; rw [hnx]; exact hq1
        have HB := Lib.hid hB
        clear hnx hq hq1 hrl hB
        go_wp2
        go_roundw
        case rel => exact ⟨j + 1, by omega, by go_num, HE.out, HB.out.setCell (by simp) _, by simpa using hs⟩
        case measure => simp [intOf]; omega
    · obtain rfl : j = m.length := by omega
      rw [rowM_full] at hq
      have hD0 := Bd.new wr
      have hA0 := bal (Below.refl wr.heap.size wr) (.cells #[.pointer none, .slice none 0 0] 88)
      have hB1 := bnx hB hA0
      have hq1 := hq.below hA0 hs
      have hlen : (modL m).length = m.length := by simp [modL]
      have HX : Hid (∀ x ∈ modL m, -9223372036854775808 ≤ x ∧ x ≤ 9223372036854775807) := by
        intro x hx
        simp only [modL, List.mem_map, List.mem_range] at hx
        obtain ⟨i, hi, rfl⟩ := hx
        exact litAt_bd m i (by omega)
      have C1 := Write_any wr.heap.size wr.heap.size [] ⟨#[118, 32]⟩ _ hD0 (by decide)
      have HE : Hid (modS m = [118, 32] ++ tellS (modL m)) := rfl
      have HQ := Lib.hid hq1
      have HB1 := Lib.hid hB1
      generalize hw2 : wr.alloc (.cells #[.pointer none, .slice none 0 0] 88) = w2 at *
      have HW2 := Lib.hid hw2
      clear hw2 hq hq1 hB1 hD0 HR
      generalize modL m = M at *
      go_wp2_with fail
      rw [HW2.out]
      refine C1.mono ?_; rintro e w3 ⟨rfl, hD3, hb3⟩
      have hB3 := HB1.out.trans (hb3.mono (Nat.le_of_lt hs))
      have r3 : RI w3 wr.heap.size (some ⟨w.heap.size, 0, none⟩) M := (HQ.out.below hb3 hs).ri hs
      have C2 := tell_any wr.heap.size wr.heap.size _ (some ⟨w.heap.size, 0, none⟩) m.length M w3 hD3 r3 ((HP.out.below hB3).mono (Nat.le_of_lt hs)) HX.out (by decide) (by omega)
      rw [hlen] at C2
      have HB3 := Lib.hid hB3
      clear C1 HQ HB1 hD3 hb3 r3 hB3 hlen
      go_wp2_with fail
      refine C2.mono ?_; rintro e w4 ⟨rfl, hD4, hb4⟩
      have hB4 := HB3.out.trans (hb4.mono (Nat.le_of_lt hs))
      have C3 := String_any wr.heap.size wr.heap.size _ w4 hD4
      have HB4 := Lib.hid hB4
      clear C2 HB3 hD4 hb4 hB4
      go_wp2_with fail
      refine C3.mono ?_; rintro e w5 ⟨rfl, hb5⟩
      have hB5 := HB4.out.trans (hb5.mono (Nat.le_of_lt hs))
      clear C3 HB4 hb5
      go_wp2
      go_ret
      exact ⟨by rw [HE.out]; rfl, hB5⟩
end Go.Proofs.YtplcabecbofjpaaDoor
