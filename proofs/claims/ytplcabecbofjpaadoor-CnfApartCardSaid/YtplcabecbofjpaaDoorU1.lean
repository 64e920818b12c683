/-
  CnfTurned's early ways out; turned formulas.
-/
import Derived.Test.YtplcabecbofjpaaDoorProg
import Derived.WalkKit
import Derived.WalkSpells
import Derived.WalkLawsBesides
import Derived.Lib.Hide
import Derived.BigQuiet
import Derived.Deep.QuietTactic
import Derived.Deep.RegionWith
import Derived.Deep.RegionHeld3
import Derived.Test.YtplcabecbofjpaaDoorT3
set_option linter.unusedVariables false
namespace Go.Proofs.YtplcabecbofjpaaDoor
open Go.RowKit
/-- A formula that a statement builds, in a variable of its own. -/
structure GW (w wr : World) (n : Int) (v : Value) (L : List (List Int)) : Prop where
  bel : Below w.heap.size w wr
  sz : w.heap.size + 1 ≤ wr.heap.size
  f0 : wr.cell? ⟨w.heap.size, 0, none⟩ = some (.int .i64 n) ∧ wr.frozen? ⟨w.heap.size, 0, none⟩ = false
  f1 : wr.cell? ⟨w.heap.size, 1, none⟩ = some v ∧ wr.frozen? ⟨w.heap.size, 1, none⟩ = false
  own : OwnC wr (w.heap.size + 1) v L
theorem GW.first (w : World) (n : Int) : GW w (w.alloc (.cells #[.int .i64 n, .slice none 0 0] 24)) n (.slice none 0 0) [] := by
  refine ⟨bal (Below.refl _ _) _, by simp, ⟨?_, ?_⟩, ⟨?_, ?_⟩, OwnC.nil _ _⟩ <;> go_simp
theorem GW.low {w wr w1 : World} {n : Int} {v v1 : Value} {L L1 : List (List Int)} (h : GW w wr n v L) (hb : Below (w.heap.size + 1) wr w1) (ho : OwnC w1 (w.heap.size + 1) v1 L1) : GW w (w1.setCell ⟨w.heap.size, 1, none⟩ v1) n v1 L1 := by
  have c1 := fun (o : Nat) => hb.cell (p := ⟨w.heap.size, o, none⟩) (by simp)
  have d1 := fun (o : Nat) => hb.frozen (p := ⟨w.heap.size, o, none⟩) (by simp)
  refine ⟨(h.bel.trans (hb.mono (by omega))).setCell (by simp) _, by have := hb.size; have := h.sz; simp; omega, ⟨?_, ?_⟩, ⟨?_, ?_⟩, ho.set (by simp) _⟩
  · rw [World.cell?_setCell_other _ _ _ _ (by simp), c1]; exact h.f0.1
  · simpa using (d1 0).trans h.f0.2
  · exact World.cell?_setCell_same _ _ _ ((c1 1).trans h.f1.1)
  · simpa using (d1 1).trans h.f1.2
theorem GW.nx {w wr w1 : World} {n : Int} {v : Value} {L : List (List Int)} (h : GW w wr n v L) (hb : Below wr.heap.size wr w1) : GW w w1 n v L := by
  have hs := h.sz
  have c1 := fun (o : Nat) => hb.cell (p := ⟨w.heap.size, o, none⟩) (by simp; omega)
  have d1 := fun (o : Nat) => hb.frozen (p := ⟨w.heap.size, o, none⟩) (by simp; omega)
  exact ⟨h.bel.trans (hb.mono (by omega)), by have := hb.size; omega, ⟨(c1 0).trans h.f0.1, (d1 0).trans h.f0.2⟩, ⟨(c1 1).trans h.f1.1, (d1 1).trans h.f1.2⟩, h.own.kept hb⟩
/-- All literals turned. -/
def negC (c : List Int) : List Int := c.map (fun x => -x)
def negF (L : List (List Int)) : List (List Int) := L.map negC
theorem litT_neg (m : List Bool) (x : Int) : litT (m.map (!·)) (-x) = litT m x := by
  unfold litT
  rw [List.length_map]
  have hg : ∀ i, i < m.length → (m.map (!·)).getD i false = !m.getD i false := by
    intro i hi; simp [List.getD_eq_getElem?_getD, hi]
  by_cases h0 : 0 < x
  · rw [if_neg (by omega), if_pos h0]
    by_cases h1 : x ≤ m.length
    · rw [decide_eq_true (by omega), decide_eq_true (by omega), decide_eq_true h1, show - -x - 1 = x - 1 by omega, hg _ (by omega)]; simp
    · rw [decide_eq_false (show ¬ -(m.length : Int) ≤ -x by omega), decide_eq_false h1]; simp
  · by_cases h2 : x < 0
    · rw [if_pos (by omega), if_neg h0]
      by_cases h1 : -(m.length : Int) ≤ x
      · rw [decide_eq_true (by omega), decide_eq_true h2, decide_eq_true h1, hg _ (by omega)]; simp
      · rw [decide_eq_false (show ¬ -x ≤ (m.length : Int) by omega), decide_eq_false h1]; simp
    · rw [if_neg (by omega), if_neg h0, decide_eq_false (by omega), decide_eq_false h2]; simp
theorem clT_neg (m : List Bool) (c : List Int) : clT (negC c) (m.map (!·)) = clT c m := by
  unfold clT negC
  rw [List.any_map]
  congr 1
  funext x
  exact litT_neg m x
theorem hoT_neg (m : List Bool) (L : List (List Int)) : hoT (negF L) (m.map (!·)) = hoT L m := by
  unfold hoT negF
  rw [List.all_map]
  congr 1
  funext c
  exact clT_neg m c
theorem right_neg {N : Int} {L : List (List Int)} (h : rightF N L = true) : rightF N (negF L) = true := by
  obtain ⟨h0, h1, h2, h3⟩ := right_parts h
  unfold rightF negF
  simp only [List.length_map, Bool.and_eq_true, decide_eq_true_eq, List.all_map, List.all_eq_true]
  refine ⟨⟨⟨h0, h1⟩, h2⟩, fun c hc => ?_⟩
  obtain ⟨c1, c2⟩ := h3 c hc
  show rightC N (negC c) = true
  simp only [rightC, negC, List.length_map, Bool.and_eq_true, decide_eq_true_eq, Bool.not_eq_true', List.any_eq_false, List.mem_map]
  refine ⟨c1, ?_⟩
  rintro x ⟨y, hy, rfl⟩
  have := c2 y hy
  simp only [badL, Bool.or_eq_true, beq_iff_eq, decide_eq_true_eq, not_or]
  omega
theorem small_parts {m : Int} {L : List (List Int)} (h : smallF m L = true) : (L.length : Int) ≤ m ∧ ∀ c ∈ L, (c.length : Int) ≤ m := by
  simp only [smallF, smallC, Bool.and_eq_true, decide_eq_true_eq, List.all_eq_true] at h
  exact h
set_option maxHeartbeats 1600000 in
theorem turned_out (A A' : Option Addr) (c c' : Nat) (N : Int) (L : List (List Int)) (m : Nat) (w : World) (h : RC w w.heap.size A L) (hn : L.length ≤ maxLen) (hm : m ≤ maxLen) (hP : Pow w.heap.size w)
    (ho : smallF 40 L = false ∨ 100 < m ∨ rightF N L = false) :
    Calls Tryd.prog 9 #[.agg #[.int .i64 N, .slice A L.length c], .slice A' m c'] w (RetV w (.bool true)) := by
  unfold maxLen at hm
  have hb := bal (Below.refl w.heap.size w) (.cells #[.int .i64 N, .slice A L.length c] 24)
  obtain ⟨q0, q1⟩ := box_cells w (.int .i64 N) (.slice A L.length c) 24
  have qs : w.heap.size < (w.alloc (.cells #[.int .i64 N, .slice A L.length c] 24)).heap.size := by simp
  have HB := Lib.hid hb
  have HR := Lib.hid (h.nx hb)
  have HP := Lib.hid (hP.nx hb)
  have HN := Lib.hid hn
  generalize hw0 : w.alloc (.cells #[.int .i64 N, .slice A L.length c] 24) = w0 at *
  have HW0 := Lib.hid hw0
  have cs : (smallF 40 L = false) ∨ (smallF 40 L = true ∧ decide ((100 : Int) < m) = true) ∨ (smallF 40 L = true ∧ decide ((100 : Int) < m) = false ∧ rightF N L = false) := by
    cases hs : smallF 40 L
    · exact .inl rfl
    · rw [hs] at ho
      by_cases h1 : 100 < m
      · exact .inr (.inl ⟨rfl, decide_eq_true (by omega)⟩)
      · refine .inr (.inr ⟨rfl, decide_eq_false (by omega), ?_⟩)
        rcases ho with h | h | h
        · cases h
        · omega
        · exact h
  clear hw0 hb h hP ho hn
  have C1 := shown_any w0 HP.out
  have stepS : ∀ w1, Below w0.heap.size w0 w1 → Calls Tryd.prog 16 #[.agg #[.int .i64 N, .slice A L.length c], .int .i64 40] w1 (RetV w1 (.bool (smallF 40 L))) := fun w1 hb => Small_any A c N 40 L w1 (HR.out.nx hb) HN.out
  have stepR : ∀ w1, Below w0.heap.size w0 w1 → Calls Tryd.prog 22 #[.agg #[.int .i64 N, .slice A L.length c]] w1 (RetV w1 (.bool (rightF N L))) := fun w1 hb => refRight_any A c N L w1 (HR.out.nx hb) HN.out
  have HS := Lib.hid stepS
  have HRR := Lib.hid stepR
  clear stepS stepR HN
  rcases cs with c1 | ⟨c1, c2⟩ | ⟨c1, c2, c3⟩
  · rw [c1] at HS
    clear c1
    go_enter Tryd.func9, Tryd.ntmps9
    go_wp2_with fail
    rw [HW0.out]
    refine C1.mono ?_; rintro e w1 ⟨rfl, hb1⟩
    have p0 := (hb1.cell (p := ⟨w.heap.size, 0, none⟩) qs).trans q0
    have p1 := (hb1.cell (p := ⟨w.heap.size, 1, none⟩) qs).trans q1
    have ps : w.heap.size < w1.heap.size := by have := hb1.size; omega
    have C2 := HS.out w1 hb1
    have HB1 := Lib.hid hb1
    clear C1 hb1
    go_wp2_with fail
    refine C2.mono ?_; rintro e w2 ⟨rfl, hb2⟩
    have hB := bnx HB.out (bnx HB1.out hb2)
    clear C2 hb2 p0 p1 ps
    go_wp2
    go_ret
    exact ⟨rfl, hB⟩
  · rw [c1] at HS
    clear c1
    go_enter Tryd.func9, Tryd.ntmps9
    go_wp2_with fail
    rw [HW0.out]
    refine C1.mono ?_; rintro e w1 ⟨rfl, hb1⟩
    have p0 := (hb1.cell (p := ⟨w.heap.size, 0, none⟩) qs).trans q0
    have p1 := (hb1.cell (p := ⟨w.heap.size, 1, none⟩) qs).trans q1
    have ps : w.heap.size < w1.heap.size := by have := hb1.size; omega
    have C2 := HS.out w1 hb1
    have HB1 := Lib.hid hb1
    clear C1 hb1
    go_wp2_with fail
    refine C2.mono ?_; rintro e w2 ⟨rfl, hb2⟩
    have hB := bnx HB.out (bnx HB1.out hb2)
    clear C2 hb2 p0 p1 ps
    go_wp2
    go_ret
    exact ⟨rfl, hB⟩
  · rw [c1] at HS
    rw [c3] at HRR
    clear c1 c3
    go_enter Tryd.func9, Tryd.ntmps9
    go_wp2_with fail
    rw [HW0.out]
    refine C1.mono ?_; rintro e w1 ⟨rfl, hb1⟩
    have p0 := (hb1.cell (p := ⟨w.heap.size, 0, none⟩) qs).trans q0
    have p1 := (hb1.cell (p := ⟨w.heap.size, 1, none⟩) qs).trans q1
    have ps : w.heap.size < w1.heap.size := by have := hb1.size; omega
    have C2 := HS.out w1 hb1
    have HB1 := Lib.hid hb1
    clear C1 hb1
    go_wp2_with fail
    refine C2.mono ?_; rintro e w2 ⟨rfl, hb2⟩
    have hE2 := bnx HB1.out hb2
    clear C2 hb2 p0 p1 ps
    have p0 := (hE2.cell (p := ⟨w.heap.size, 0, none⟩) qs).trans q0
    have p1 := (hE2.cell (p := ⟨w.heap.size, 1, none⟩) qs).trans q1
    have ps : w.heap.size < w2.heap.size := by have := hE2.size; omega
    have C3 := HRR.out w2 hE2
    go_wp2_with fail
    refine C3.mono ?_; rintro e w3 ⟨rfl, hb3⟩
    have hB := bnx HB.out (bnx hE2 hb3)
    clear C3 hb3 p0 p1 ps hE2
    go_wp2
    go_ret
    exact ⟨rfl, hB⟩
end Go.Proofs.YtplcabecbofjpaaDoor
