/-
  Pieces of what is right: literals, kinds, names behind another one.
  What is small; a model in a variable.
-/
import Derived.Test.YtkdocjcpehmljaaProg
import Derived.WalkKit
import Derived.WalkSpells
import Derived.WalkLawsBesides
import Derived.Lib.Hide
import Derived.BigQuiet
import Derived.Deep.QuietTactic
import Derived.Deep.RegionWith
import Derived.Deep.RegionHeld3
import Derived.Test.YtkdocjcpehmljaaQ01
import Derived.Test.YtkdocjcpehmljaaQ02
import Derived.Test.YtkdocjcpehmljaaQ05
import Derived.Deep.LoopGhost
import Derived.WalkMore
import Derived.Test.YtkdocjcpehmljaaQ03
set_option linter.unusedVariables false
/- Pieces of what is right: literals, kinds, names behind another one. -/
namespace Go.Proofs.Ytkdocjcpehmljaa
open Go.RowKit
/-- A call that tells yes or no; if yes, P holds. -/
def RetP (w0 : World) (P : Prop) (e : Ending) (w' : World) : Prop := ∃ b, e = .returned (.bool b) ∧ (b = true → P) ∧ Below w0.heap.size w0 w'
def RetN (w0 : World) (e : Ending) (w' : World) : Prop := ∃ k : Int, e = .returned (.int .i64 k) ∧ Below w0.heap.size w0 w'
set_option maxHeartbeats 1600000 in
theorem lits_any (A : Option Addr) (c : Nat) (l : List Int) (v : Int) (w : World) (h : RI w w.heap.size A l) (hn : l.length ≤ maxLen) (v0 : 0 ≤ v) (v1 : v ≤ 20000) :
    Calls Try.prog 37 #[.slice A l.length c, .int .i64 v] w (RetP w (l.length ≤ 2000 ∧ ∀ x ∈ l, 0 ≤ x ∧ x ≤ 2 * v + 1)) := by
  unfold maxLen at hn
  have H := Lib.hid h
  obtain ⟨P, hP⟩ : ∃ P : Prop, P = (l.length ≤ 2000 ∧ ∀ x ∈ l, 0 ≤ x ∧ x ≤ 2 * v + 1) := ⟨_, rfl⟩
  rw [← hP]
  have HP := Lib.hid hP
  clear h hP
  go_enter Try.func37, Try.ntmps37
  go_wp2
  go_loopg [5] l.length (fun g s wr => ∃ j : Nat, j + g = l.length ∧ s = .int .i64 j ∧ w = wr ∧ Hid (∀ i, i < j → 0 ≤ l.getD i 0 ∧ l.getD i 0 ≤ 2 * v + 1))
  case atStart => exact ⟨0, by omega, rfl, rfl, Lib.hid (fun i hi => by omega)⟩
  case round =>
    obtain ⟨j, hj, rfl, rfl, HJ⟩ := hrel
    cases gk with
    | zero =>
      have q1 : ¬ ((j : Int) < l.length) := by omega
      have q2 : ¬ (j < l.length) := by omega
      have HE : Hid (∀ x ∈ l, 0 ≤ x ∧ x ≤ 2 * v + 1) := Lib.hid fun x hx => by
        obtain ⟨i, hi, rfl⟩ := List.getElem_of_mem hx
        have := HJ.out i (by omega)
        simpa [List.getD_eq_getElem?_getD, hi] using this
      clear HJ H
      by_cases h2 : l.length ≤ 2000
      · have d1 : decide (l.length ≤ 2000) = true := decide_eq_true h2
        have d2 : decide ((l.length : Int) ≤ 2000) = true := decide_eq_true (by omega)
        have H2 := Lib.hid h2
        go_wp2
        go_ret
        exact ⟨true, rfl, fun _ => by rw [HP.out]; exact ⟨H2.out, HE.out⟩, Below.refl _ _⟩
      · have d1 : decide (l.length ≤ 2000) = false := decide_eq_false h2
        have d2 : decide ((l.length : Int) ≤ 2000) = false := decide_eq_false (by omega)
        go_wp2
        go_ret
        exact ⟨false, rfl, (fun h => by cases h), Below.refl _ _⟩
    | succ g =>
      have hlt : j < l.length := by omega
      have hlt' : (j : Int) < l.length := by omega
      obtain ⟨ad, rfl, _, hc⟩ := H.out j hlt
      have HX : Hid (0 ≤ l.getD j 0 → l.getD j 0 ≤ 2 * v + 1 → ∀ i, i < j + 1 → 0 ≤ l.getD i 0 ∧ l.getD i 0 ≤ 2 * v + 1) := Lib.hid fun h1 h2 i hi => by
        by_cases e : i = j
        · subst e; exact ⟨h1, h2⟩
        · exact HJ.out i (by omega)
      clear HJ
      generalize hx : l.getD j 0 = x at *
      clear hx
      by_cases h1 : x < 0
      · have d1 : decide (x < 0) = true := decide_eq_true h1
        clear HX H
        go_wp2
        go_ret
        exact ⟨false, rfl, (fun h => by cases h), Below.refl _ _⟩
      · have d1 : decide (x < 0) = false := decide_eq_false h1
        by_cases h2 : 2 * v + 1 < x
        · have d2 : decide (2 * v + 1 < x) = true := decide_eq_true h2
          clear HX H
          go_wp2
          go_ret
          exact ⟨false, rfl, (fun h => by cases h), Below.refl _ _⟩
        · have d2 : decide (2 * v + 1 < x) = false := decide_eq_false h2
          have HY := Lib.hid (HX.out (by omega) (by omega))
          clear HX
          go_wp2
          go_roundg g
          case measure => omega
          case rel => exact ⟨j + 1, by omega, by go_num, rfl, HY⟩
set_option maxHeartbeats 1600000 in
theorem many_any (I : Int) (AL AG AO AB AC AN : Option Addr) (cL cG cO cB cC cN : Nat) (L G : List Pr) (O D C : List Int) (N : List Nm) (k : Int) (w : World) : Calls Try.prog 39 #[.agg #[.int .i64 I, .slice AL L.length cL, .slice AG G.length cG, .slice AO O.length cO, .slice AB D.length cB, .slice AC C.length cC, .slice AN N.length cN], .int .i64 k] w (RetN w) := by
  have hb := bal (Below.refl w.heap.size w) (.cells #[.int .i64 I, .slice AL L.length cL, .slice AG G.length cG, .slice AO O.length cO, .slice AB D.length cB, .slice AC C.length cC, .slice AN N.length cN] 27)
  have hc : k = 0 ∨ (¬ k = 0 ∧ (k = 1 ∨ (¬ k = 1 ∧ (k = 2 ∨ (¬ k = 2 ∧ (k = 3 ∨ (¬ k = 3 ∧ (k = 4 ∨ ¬ k = 4)))))))) := by omega
  rcases hc with rfl | ⟨h0, rfl | ⟨h1, rfl | ⟨h2, rfl | ⟨h3, rfl | h4⟩⟩⟩⟩
  · go_enter Try.func39, Try.ntmps39
    go_wp2
    go_ret
    exact ⟨_, rfl, hb⟩
  · go_enter Try.func39, Try.ntmps39
    go_wp2
    go_ret
    exact ⟨_, rfl, hb⟩
  · go_enter Try.func39, Try.ntmps39
    go_wp2
    go_ret
    exact ⟨_, rfl, hb⟩
  · go_enter Try.func39, Try.ntmps39
    go_wp2
    go_ret
    exact ⟨_, rfl, hb⟩
  · go_enter Try.func39, Try.ntmps39
    go_wp2
    go_ret
    exact ⟨_, rfl, hb⟩
  · have d0 : decide (k = 0) = false := decide_eq_false h0
    have d1 : decide (k = 1) = false := decide_eq_false h1
    have d2 : decide (k = 2) = false := decide_eq_false h2
    have d3 : decide (k = 3) = false := decide_eq_false h3
    have d4 : decide (k = 4) = false := decide_eq_false h4
    go_enter Try.func39, Try.ntmps39
    go_wp2
    go_ret
    exact ⟨_, rfl, hb⟩
set_option maxHeartbeats 1600000 in
theorem kind_any (q : Int) (w : World) : Calls Try.prog 40 #[.int .u8 q] w (RetN w) := by
  have hb := bal (Below.refl w.heap.size w) (.cells #[.int .u8 105, .int .u8 108, .int .u8 111, .int .u8 98, .int .u8 99] 5)
  have hcell : ∀ j, j < 5 → ∃ x, (w.alloc (.cells #[.int .u8 105, .int .u8 108, .int .u8 111, .int .u8 98, .int .u8 99] 5)).cell? ⟨w.heap.size, j, none⟩ = some (.int .u8 x) := by
    intro j hj
    match j, hj with
    | 0, _ => exact ⟨105, by go_simp⟩
    | 1, _ => exact ⟨108, by go_simp⟩
    | 2, _ => exact ⟨111, by go_simp⟩
    | 3, _ => exact ⟨98, by go_simp⟩
    | 4, _ => exact ⟨99, by go_simp⟩
  go_enter Try.func40, Try.ntmps40
  go_wp2
  generalize w.alloc (.cells #[.int .u8 105, .int .u8 108, .int .u8 111, .int .u8 98, .int .u8 99] 5) = w1 at *
  have HC := Lib.hid hcell
  have HB := Lib.hid hb
  clear hcell hb
  go_loopg [4] 5 (fun g s wr => ∃ j : Nat, j + g = 5 ∧ s = .int .i64 j ∧ w1 = wr)
  case atStart => exact ⟨0, by omega, rfl, rfl⟩
  case round =>
    obtain ⟨j, hj, rfl, rfl⟩ := hrel
    cases gk with
    | zero =>
      have q1 : ¬ ((j : Int) < 5) := by omega
      have q2 : ¬ (j < 5) := by omega
      go_wp2
      go_ret
      exact ⟨_, rfl, HB.out⟩
    | succ g =>
      have hjl : j < 5 := by omega
      have hjl' : (j : Int) < 5 := by omega
      obtain ⟨x, hx⟩ := HC.out j hjl
      by_cases h1 : x = q
      · subst h1
        go_wp2
        go_ret
        exact ⟨_, rfl, HB.out⟩
      · have d1 : decide (x = q) = false := decide_eq_false h1
        go_wp2
        go_roundg g
        case measure => omega
        case rel => exact ⟨j + 1, by omega, by go_num, rfl⟩
set_option maxHeartbeats 1600000 in
theorem Behind_any (x y : Nm) (w : World) : Calls Try.prog 41 #[.agg #[.int .u8 (x.k.toNat : Int), .int .i64 x.at_, .string x.s], .agg #[.int .u8 (y.k.toNat : Int), .int .i64 y.at_, .string y.s]] w (RetP w True) := by
  obtain ⟨k1, p1, s1⟩ := x
  obtain ⟨k2, p2, s2⟩ := y
  simp only
  have hb1 := bal (Below.refl w.heap.size w) (.cells #[.int .u8 (k1.toNat : Int), .int .i64 p1, .string s1] 84)
  have hb2 := bal hb1 (.cells #[.int .u8 (k2.toNat : Int), .int .i64 p2, .string s2] 84)
  generalize (k1.toNat : Int) = c1 at *
  generalize (k2.toNat : Int) = c2 at *
  have hx : ((w.alloc (.cells #[.int .u8 c1, .int .i64 p1, .string s1] 84)).alloc (.cells #[.int .u8 c2, .int .i64 p2, .string s2] 84)).cell? ⟨w.heap.size, 1, none⟩ = some (.int .i64 p1) := by go_simp
  have hy : ((w.alloc (.cells #[.int .u8 c1, .int .i64 p1, .string s1] 84)).alloc (.cells #[.int .u8 c2, .int .i64 p2, .string s2] 84)).cell? ⟨w.heap.size + 1, 1, none⟩ = some (.int .i64 p2) := by go_simp
  have hy0 : ((w.alloc (.cells #[.int .u8 c1, .int .i64 p1, .string s1] 84)).alloc (.cells #[.int .u8 c2, .int .i64 p2, .string s2] 84)).cell? ⟨w.heap.size + 1, 0, none⟩ = some (.int .u8 c2) := by go_simp
  have C1 := kind_any c1 ((w.alloc (.cells #[.int .u8 c1, .int .i64 p1, .string s1] 84)).alloc (.cells #[.int .u8 c2, .int .i64 p2, .string s2] 84))
  have hs : ((w.alloc (.cells #[.int .u8 c1, .int .i64 p1, .string s1] 84)).alloc (.cells #[.int .u8 c2, .int .i64 p2, .string s2] 84)).heap.size = w.heap.size + 2 := by simp
  go_enter Try.func41, Try.ntmps41
  go_wp2_with fail
  refine C1.mono ?_; rintro e u1 ⟨a, rfl, hu1⟩
  generalize (w.alloc (.cells #[.int .u8 c1, .int .i64 p1, .string s1] 84)).alloc (.cells #[.int .u8 c2, .int .i64 p2, .string s2] 84) = w0 at *
  have hx1 := (hu1.cell (p := ⟨w.heap.size, 1, none⟩) (by show w.heap.size < _; omega)).trans hx
  have hy1 := (hu1.cell (p := ⟨w.heap.size + 1, 1, none⟩) (by show w.heap.size + 1 < _; omega)).trans hy
  have hy2 := (hu1.cell (p := ⟨w.heap.size + 1, 0, none⟩) (by show w.heap.size + 1 < _; omega)).trans hy0
  have C2 := kind_any c2 u1
  have hB1 := hb2.trans (hu1.mono (by omega))
  have HS := Lib.hid hs
  clear C1 hx hy hy0 hb1 hb2 hs
  go_wp2_with fail
  refine C2.mono ?_; rintro e u2 ⟨b, rfl, hu2⟩
  have hx2 := (hu2.cell (p := ⟨w.heap.size, 1, none⟩) (by show w.heap.size < _; have := HS.out; have := hu1.size; omega)).trans hx1
  have hy3 := (hu2.cell (p := ⟨w.heap.size + 1, 1, none⟩) (by show w.heap.size + 1 < _; have := HS.out; have := hu1.size; omega)).trans hy1
  have hB2 := Lib.hid (hB1.trans (hu2.mono hB1.size))
  clear C2 hx1 hy1 hy2 hu1 hu2 hB1
  by_cases h1 : a < b
  · have d1 : decide (a < b) = true := decide_eq_true h1
    go_wp2
    go_ret
    exact ⟨_, rfl, (fun _ => trivial), hB2.out⟩
  · have d1 : decide (a < b) = false := decide_eq_false h1
    by_cases h2 : a = b
    · subst h2
      go_wp2
      go_ret
      exact ⟨_, rfl, (fun _ => trivial), hB2.out⟩
    · have d2 : decide (a = b) = false := decide_eq_false h2
      go_wp2
      go_ret
      exact ⟨_, rfl, (fun _ => trivial), hB2.out⟩
end Go.Proofs.Ytkdocjcpehmljaa
/- What is small; a model in a variable. -/
namespace Go.Proofs.Ytkdocjcpehmljaa
open Go.RowKit
set_option maxRecDepth 100000 in
set_option maxHeartbeats 4000000 in
theorem Small_any (I : Int) (AL AG AO AB AC AN : Option Addr) (cL cG cO cB cC cN : Nat) (L G : List Pr) (O D C : List Int) (N : List Nm) (w : World) (hN : RN w w.heap.size AN N) :
    Calls Try.prog 25 #[.agg #[.int .i64 I, .slice AL L.length cL, .slice AG G.length cG, .slice AO O.length cO, .slice AB D.length cB, .slice AC C.length cC, .slice AN N.length cN], .int .i64 40] w (RetP w (I ≤ 40 ∧ L.length ≤ 40 ∧ G.length ≤ 40 ∧ O.length ≤ 40 ∧ D.length ≤ 40 ∧ C.length ≤ 40 ∧ N.length ≤ 40)) := by
  have hb := bal (Below.refl w.heap.size w) (.cells #[.int .i64 I, .slice AL L.length cL, .slice AG G.length cG, .slice AO O.length cO, .slice AB D.length cB, .slice AC C.length cC, .slice AN N.length cN] 27)
  have hc6 : (w.alloc (.cells #[.int .i64 I, .slice AL L.length cL, .slice AG G.length cG, .slice AO O.length cO, .slice AB D.length cB, .slice AC C.length cC, .slice AN N.length cN] 27)).cell? ⟨w.heap.size, 6, none⟩ = some (.slice AN N.length cN) := by go_simp
  obtain ⟨P, hP⟩ : ∃ P : Prop, P = (I ≤ 40 ∧ L.length ≤ 40 ∧ G.length ≤ 40 ∧ O.length ≤ 40 ∧ D.length ≤ 40 ∧ C.length ≤ 40 ∧ N.length ≤ 40) := ⟨_, rfl⟩
  rw [← hP]
  have HP := Lib.hid hP
  have HN := Lib.hid (hN.below hb)
  clear hP hN
  have hc : (decide ((40 : Int) < I) = true) ∨ ((decide ((40 : Int) < I) = false) ∧ ((decide ((40 : Int) < (L.length : Int)) = true ∧ decide (40 < L.length) = true) ∨ ((decide ((40 : Int) < (L.length : Int)) = false ∧ decide (40 < L.length) = false) ∧ ((decide ((40 : Int) < (G.length : Int)) = true ∧ decide (40 < G.length) = true) ∨ ((decide ((40 : Int) < (G.length : Int)) = false ∧ decide (40 < G.length) = false) ∧ ((decide ((40 : Int) < (O.length : Int)) = true ∧ decide (40 < O.length) = true) ∨ ((decide ((40 : Int) < (O.length : Int)) = false ∧ decide (40 < O.length) = false) ∧ ((decide ((40 : Int) < (D.length : Int)) = true ∧ decide (40 < D.length) = true) ∨ ((decide ((40 : Int) < (D.length : Int)) = false ∧ decide (40 < D.length) = false) ∧ ((decide ((40 : Int) < (C.length : Int)) = true ∧ decide (40 < C.length) = true) ∨ ((decide ((40 : Int) < (C.length : Int)) = false ∧ decide (40 < C.length) = false) ∧ ((decide ((40 : Int) < (N.length : Int)) = true ∧ decide (40 < N.length) = true) ∨ ((decide ((40 : Int) < (N.length : Int)) = false ∧ decide (40 < N.length) = false) ∧ (True)))))))))))))) := by
    simp only [decide_eq_true_eq, decide_eq_false_iff_not, and_true]; omega
  rcases hc with e0 | ⟨f0, ⟨e1, e1b⟩ | ⟨⟨f1, f1b⟩, ⟨e2, e2b⟩ | ⟨⟨f2, f2b⟩, ⟨e3, e3b⟩ | ⟨⟨f3, f3b⟩, ⟨e4, e4b⟩ | ⟨⟨f4, f4b⟩, ⟨e5, e5b⟩ | ⟨⟨f5, f5b⟩, ⟨e6, e6b⟩ | ⟨⟨f6, f6b⟩, hok⟩⟩⟩⟩⟩⟩⟩
  · go_enter Try.func25, Try.ntmps25
    go_wp2
    go_ret
    exact ⟨false, rfl, (fun h => by cases h), hb⟩
  · go_enter Try.func25, Try.ntmps25
    go_wp2
    go_ret
    exact ⟨false, rfl, (fun h => by cases h), hb⟩
  · go_enter Try.func25, Try.ntmps25
    go_wp2
    go_ret
    exact ⟨false, rfl, (fun h => by cases h), hb⟩
  · go_enter Try.func25, Try.ntmps25
    go_wp2
    go_ret
    exact ⟨false, rfl, (fun h => by cases h), hb⟩
  · go_enter Try.func25, Try.ntmps25
    go_wp2
    go_ret
    exact ⟨false, rfl, (fun h => by cases h), hb⟩
  · go_enter Try.func25, Try.ntmps25
    go_wp2
    go_ret
    exact ⟨false, rfl, (fun h => by cases h), hb⟩
  · go_enter Try.func25, Try.ntmps25
    go_wp2
    go_ret
    exact ⟨false, rfl, (fun h => by cases h), hb⟩
  · have HPT := Lib.hid (show P by
      rw [HP.out]
      simp only [decide_eq_false_iff_not] at *
      omega)
    have q40 : N.length ≤ 40 := by simp only [decide_eq_false_iff_not] at f6b; omega
    have HB := Lib.hid hb
    clear HP
    go_enter Try.func25, Try.ntmps25
    go_wp2
    generalize w.alloc (.cells #[.int .i64 I, .slice AL L.length cL, .slice AG G.length cG, .slice AO O.length cO, .slice AB D.length cB, .slice AC C.length cC, .slice AN N.length cN] 27) = w0 at *
    clear f0 f1 f1b f2 f2b f3 f3b f4 f4b f5 f5b f6 f6b hb
    go_loopg [5] N.length (fun g s wr => ∃ j : Nat, j + g = N.length ∧ s = .int .i64 j ∧ w0 = wr)
    case atStart => exact ⟨0, by omega, rfl, rfl⟩
    case round =>
      obtain ⟨j, hj, rfl, rfl⟩ := hrel
      cases gk with
      | zero =>
        have q1 : ¬ ((j : Int) < N.length) := by omega
        have q2 : ¬ (j < N.length) := by omega
        go_wp2
        go_ret
        exact ⟨true, rfl, fun _ => HPT.out, HB.out⟩
      | succ g =>
        have hjl : j < N.length := by omega
        have hjl' : (j : Int) < N.length := by omega
        obtain ⟨ad, rfl, _, z0, z1, z2, z3⟩ := HN.out j hjl
        unfold maxLen at z3
        generalize N.getD j nm0 = nn at *
        by_cases h2 : 200 < nn.s.size
        · have d1 : decide (200 < nn.s.size) = true := decide_eq_true h2
          have d2 : decide ((200 : Int) < (nn.s.size : Int)) = true := decide_eq_true (by omega)
          go_wp2
          go_ret
          exact ⟨false, rfl, (fun h => by cases h), HB.out⟩
        · have d1 : decide (200 < nn.s.size) = false := decide_eq_false h2
          have d2 : decide ((200 : Int) < (nn.s.size : Int)) = false := decide_eq_false (by omega)
          go_wp2
          go_roundg g
          case measure => omega
          case rel => exact ⟨j + 1, by omega, by go_num, rfl⟩
/-- The cells of a model in a variable. -/
structure KA (w : World) (b : Nat) (I : Int) (AL AG AO AB AC AN : Option Addr) (cL cG cO cB cC cN : Nat) (L G : List Pr) (O D C : List Int) (N : List Nm) : Prop where
  k0 : w.cell? ⟨b, 0, none⟩ = some (.int .i64 I)
  k1 : w.cell? ⟨b, 1, none⟩ = some (.slice AL L.length cL)
  k2 : w.cell? ⟨b, 2, none⟩ = some (.slice AG G.length cG)
  k3 : w.cell? ⟨b, 3, none⟩ = some (.slice AO O.length cO)
  k4 : w.cell? ⟨b, 4, none⟩ = some (.slice AB D.length cB)
  k5 : w.cell? ⟨b, 5, none⟩ = some (.slice AC C.length cC)
  k6 : w.cell? ⟨b, 6, none⟩ = some (.slice AN N.length cN)
theorem KA.nx {w w' : World} {b : Nat} {I : Int} {AL AG AO AB AC AN : Option Addr} {cL cG cO cB cC cN : Nat} {L G : List Pr} {O D C : List Int} {N : List Nm} (h : KA w b I AL AG AO AB AC AN cL cG cO cB cC cN L G O D C N) {B : Nat} (hb : Below B w w') (hlt : b < B) : KA w' b I AL AG AO AB AC AN cL cG cO cB cC cN L G O D C N :=
  ⟨(hb.cell (p := ⟨b, 0, none⟩) hlt).trans h.k0, (hb.cell (p := ⟨b, 1, none⟩) hlt).trans h.k1, (hb.cell (p := ⟨b, 2, none⟩) hlt).trans h.k2, (hb.cell (p := ⟨b, 3, none⟩) hlt).trans h.k3, (hb.cell (p := ⟨b, 4, none⟩) hlt).trans h.k4, (hb.cell (p := ⟨b, 5, none⟩) hlt).trans h.k5, (hb.cell (p := ⟨b, 6, none⟩) hlt).trans h.k6⟩
theorem KA.new (w : World) (I : Int) (AL AG AO AB AC AN : Option Addr) (cL cG cO cB cC cN : Nat) (L G : List Pr) (O D C : List Int) (N : List Nm) : KA (w.alloc (.cells #[.int .i64 I, .slice AL L.length cL, .slice AG G.length cG, .slice AO O.length cO, .slice AB D.length cB, .slice AC C.length cC, .slice AN N.length cN] 27)) w.heap.size I AL AG AO AB AC AN cL cG cO cB cC cN L G O D C N := by
  constructor <;> go_simp
end Go.Proofs.Ytkdocjcpehmljaa
