/-
  The reference's Ints, Flags and Same over the translated program.
  The reference's Clause, Holds.
  What the texts on what clauses force lean on: the readings and rows of the texts on formulas.
  Maps keyed by numbers, as functions; what is forced of a variable.
-/
import Derived.Test.YtahedhpffjgimaaDoorProg
import Derived.WalkKit
import Derived.WalkSpells
import Derived.WalkLawsBesides
import Derived.Lib.Hide
import Derived.BigQuiet
import Derived.Deep.QuietTactic
import Derived.Deep.RegionWith
import Derived.Deep.RegionHeld3
import Derived.Test.YtahedhpffjgimaaDoorQ07
import Derived.Test.YtahedhpffjgimaaDoorQ05
import Derived.Maps.AppendAt
import Derived.Maps.OwnOps
import Derived.Maps.OwnSet
import Derived.Maps.Views
set_option linter.unusedVariables false
/- The reference's Ints, Flags and Same over the translated program. -/
namespace Go.Proofs.YtahedhpffjgimaaDoor
open Go.RowKit
set_option maxHeartbeats 800000 in
theorem Ints_q (A A' : Option Addr) (c c' : Nat) (l l' : List Int) (w : World) (h : RI w w.heap.size A l) (h' : RI w w.heap.size A' l') (hn : l.length ≤ maxLen) (hn' : l'.length ≤ maxLen) :
    Calls Tryd.prog 42 #[.slice A l.length c, .slice A' l'.length c'] w fun e w' => e = .returned (.bool (l == l')) ∧ ∃ n, w' = w.drewN n := by
  unfold maxLen at hn hn'
  by_cases hl : l.length = l'.length
  · have hne : ((l.length : Int) != (l'.length : Int)) = false := by simp [hl]
    obtain ⟨T, hT⟩ : ∃ T, (l == l') = T := ⟨_, rfl⟩
    rw [hT]
    have HT : Hid ((l == l') = T) := hT
    clear hT
    have HL := Lib.hid hl
    clear hl
    go_enter Tryd.func42, Tryd.ntmps42
    go_wp2
    go_loopw [5] (fun i wr => ∃ (j q : Nat), j ≤ l.length ∧ i = .int .i64 j ∧ wr = w.drewN q ∧ Hid ((l.drop j == l'.drop j) = T)) (fun i _ => l.length - (intOf i).toNat)
    case atStart => exact ⟨0, 0, Nat.zero_le _, rfl, rfl, HT⟩
    case round =>
      obtain ⟨j, q, hj, rfl, rfl, HJ⟩ := hrel
      by_cases hlt : j < l.length
      · obtain ⟨a1, rfl, _, hc1⟩ := h j hlt
        obtain ⟨a2, rfl, _, hc2⟩ := h' j (by rw [← HL.out]; exact hlt)
        have hlt' : (j : Int) < l.length := by omega
        have hlt2 : (j : Int) < l'.length := by have := HL.out; omega
        have e := HJ.out
        rw [dropI l j hlt, dropI l' j (by rw [← HL.out]; exact hlt)] at e
        generalize l.getD j 0 = u at *
        generalize l'.getD j 0 = v at *
        by_cases huv : u = v
        · subst huv
          have hvv : (u != u) = false := by simp
          have HE : Hid ((l.drop (j + 1) == l'.drop (j + 1)) = T) := by show _ = _; simpa using e
          clear e HJ HT h h'
          go_wp2
          go_quiet (fail)
          go_wp2
          go_roundw
          case rel => exact ⟨j + 1, q + nq, by omega, by go_num, by first | rfl | rw [World.drewN_drewN], HE⟩
          case measure => simp [intOf]; omega
        · have hvv : (u != v) = true := by simp [huv]
          have HE : Hid (false = T) := by show _ = _; rw [← e, List.cons_beq_cons, beq_eq_false_iff_ne.2 huv, Bool.false_and]
          clear e HJ HT h h' huv
          go_wp2
          go_quiet (fail)
          go_wp2
          go_ret
          exact ⟨by rw [← HE.out]; rfl, q + nq, by first | rfl | rw [World.drewN_drewN]⟩
      · have e := HJ.out
        rw [List.drop_of_length_le (by omega), List.drop_of_length_le (by have := HL.out; omega)] at e
        have HE : Hid (true = T) := by show _ = _; simpa using e
        clear e HJ HT h h'
        go_wp2
        go_ret
        exact ⟨by rw [← HE.out]; rfl, q, rfl⟩
  · have hne : ((l.length : Int) != (l'.length : Int)) = true := by simp; omega
    have hf : (l == l') = false := by rw [beq_eq_false_iff_ne]; intro e; exact hl (by rw [e])
    rw [hf]
    clear hl h h'
    go_enter Tryd.func42, Tryd.ntmps42
    go_wp2
    go_ret
    exact ⟨rfl, 0, rfl⟩
theorem Ints_any (A A' : Option Addr) (c c' : Nat) (l l' : List Int) (w : World) (h : RI w w.heap.size A l) (h' : RI w w.heap.size A' l') (hn : l.length ≤ maxLen) (hn' : l'.length ≤ maxLen) :
    Calls Tryd.prog 42 #[.slice A l.length c, .slice A' l'.length c'] w (RetV w (.bool (l == l'))) :=
  (Ints_q A A' c c' l l' w h h' hn hn').mono fun e w' ⟨he, n, hw⟩ => ⟨he, by rw [hw]; exact Rd.drw n⟩
theorem small_parts {m : Int} {L : List (List Int)} (h : smallF m L = true) : (L.length : Int) ≤ m ∧ ∀ c ∈ L, (c.length : Int) ≤ m := by
  simp only [smallF, smallC, Bool.and_eq_true, decide_eq_true_eq, List.all_eq_true] at h
  exact h
end Go.Proofs.YtahedhpffjgimaaDoor
/- The reference's Clause, Holds. -/
namespace Go.Proofs.YtahedhpffjgimaaDoor
open Go.RowKit
/-- Is a literal true at one of these flags, the first of them the k-th? -/
def hit : Nat → List Bool → Int → Bool
  | _, [], _ => false
  | k, b :: t, x => (if b then x == (k : Int) + 1 else x == -(k : Int) - 1) || hit (k + 1) t x
theorem hit_iff (x : Int) : ∀ (t : List Bool) (k : Nat), hit k t x = true ↔ ∃ i, i < t.length ∧ ((t.getD i false = true ∧ x = (k : Int) + i + 1) ∨ (t.getD i false = false ∧ x = -(k : Int) - i - 1))
  | [], k => by simp [hit]
  | b :: t, k => by
    have ih := hit_iff x t (k + 1)
    rw [hit, Bool.or_eq_true, ih]
    constructor
    · rintro (h | ⟨i, h1, h2⟩)
      · refine ⟨0, by simp, ?_⟩
        cases b
        · right; simpa using h
        · left; simpa using h
      · refine ⟨i + 1, by simp; omega, ?_⟩
        rcases h2 with ⟨h2, h3⟩ | ⟨h2, h3⟩
        · left; exact ⟨by simpa using h2, by omega⟩
        · right; exact ⟨by simpa using h2, by omega⟩
    · rintro ⟨i, h1, h2⟩
      cases i with
      | zero =>
        left
        cases b
        · simp at h2; simp [h2]
        · simp at h2; simp [h2]
      | succ i =>
        right
        refine ⟨i, by simp at h1; omega, ?_⟩
        rcases h2 with ⟨h2, h3⟩ | ⟨h2, h3⟩
        · left; exact ⟨by simpa using h2, by omega⟩
        · right; exact ⟨by simpa using h2, by omega⟩
theorem hit_litT (m : List Bool) (x : Int) : hit 0 m x = litT m x := by
  rw [Bool.eq_iff_iff, hit_iff]
  unfold litT
  constructor
  · rintro ⟨i, h1, ⟨h2, h3⟩ | ⟨h2, h3⟩⟩
    · rw [if_pos (by omega), decide_eq_true (by omega)]
      rw [show (x - 1).toNat = i by omega, h2]; rfl
    · rw [if_neg (by omega), decide_eq_true (by omega), decide_eq_true (by omega)]
      rw [show (-x - 1).toNat = i by omega, h2]; rfl
  · intro h
    split at h
    · rename_i h0
      simp only [Bool.and_eq_true, decide_eq_true_eq] at h
      exact ⟨(x - 1).toNat, by omega, .inl ⟨h.2, by omega⟩⟩
    · rename_i h0
      simp only [Bool.and_eq_true, decide_eq_true_eq, Bool.not_eq_true'] at h
      exact ⟨(-x - 1).toNat, by omega, .inr ⟨h.2, by omega⟩⟩
set_option maxHeartbeats 1600000 in
theorem refClause_any (A A' : Option Addr) (c c' : Nat) (l : List Int) (m : List Bool) (w : World) (h : RI w w.heap.size A l) (h' : RB w w.heap.size A' m) (hn : l.length ≤ maxLen) (hm : m.length ≤ maxLen) :
    Calls Tryd.prog 29 #[.slice A l.length c, .slice A' m.length c'] w (RetS w (.bool (clT l m))) := by
  unfold maxLen at hn hm
  have HR := Lib.hid h
  have HM := Lib.hid h'
  obtain ⟨T, hT⟩ : ∃ T, clT l m = T := ⟨_, rfl⟩
  rw [hT]
  have HT : Hid (clT (l.drop 0) m = T) := hT
  clear hT h h'
  go_enter Tryd.func29, Tryd.ntmps29
  go_wp2
  go_loop [5] (fun i => ∃ j : Nat, j ≤ l.length ∧ i = .int .i64 j ∧ Hid (clT (l.drop j) m = T)) (fun i => l.length - (intOf i).toNat)
  case atStart => exact ⟨0, Nat.zero_le _, rfl, HT⟩
  case round =>
    obtain ⟨j, hj, rfl, HJ⟩ := hrel
    clear HT
    by_cases hlt : j < l.length
    · obtain ⟨a1, rfl, _, hc1⟩ := HR.out j hlt
      have hlt' : (j : Int) < l.length := by omega
      have e := HJ.out
      unfold clT at e
      rw [dropI l j hlt, List.any_cons, ← hit_litT] at e
      generalize l.getD j 0 = x at *
      have HU : Hid ((hit 0 (m.drop 0) x || clT (l.drop (j + 1)) m) = T) := e
      clear e HJ
      go_wp2
      go_loop [6] (fun i => ∃ k : Nat, k ≤ m.length ∧ i = .int .i64 k ∧ Hid ((hit k (m.drop k) x || clT (l.drop (j + 1)) m) = T)) (fun i => m.length - (intOf i).toNat)
      case atStart => exact ⟨0, Nat.zero_le _, rfl, HU⟩
      case round =>
        obtain ⟨k, hk, rfl, HK⟩ := hrel
        clear HU
        by_cases hkl : k < m.length
        · obtain ⟨a2, rfl, _, hc2⟩ := HM.out k hkl
          have hkl' : (k : Int) < m.length := by omega
          have e := HK.out
          rw [dropB m k hkl, hit] at e
          generalize m.getD k false = b at *
          clear HK
          cases b
          · rw [if_neg (by simp)] at e
            cases hx : (x == -(k : Int) - 1)
            · have HE : Hid ((hit (k + 1) (m.drop (k + 1)) x || clT (l.drop (j + 1)) m) = T) := by show _ = _; rw [← e, hx]; simp
              clear e
              go_wp2
              go_round
              case rel => exact ⟨k + 1, by omega, by go_num, HE⟩
              case measure => simp [intOf]; omega
            · have HE : Hid (true = T) := by show _ = _; rw [← e, hx]; simp
              clear e
              go_wp2
              go_ret
              exact ⟨by rw [← HE.out]; rfl, rfl⟩
          · rw [if_pos rfl] at e
            cases hx : (x == (k : Int) + 1)
            · have HE : Hid ((hit (k + 1) (m.drop (k + 1)) x || clT (l.drop (j + 1)) m) = T) := by show _ = _; rw [← e, hx]; simp
              clear e
              go_wp2
              go_round
              case rel => exact ⟨k + 1, by omega, by go_num, HE⟩
              case measure => simp [intOf]; omega
            · have HE : Hid (true = T) := by show _ = _; rw [← e, hx]; simp
              clear e
              go_wp2
              go_ret
              exact ⟨by rw [← HE.out]; rfl, rfl⟩
        · have e := HK.out
          rw [List.drop_of_length_le (by omega), hit, Bool.false_or] at e
          have HE : Hid (clT (l.drop (j + 1)) m = T) := e
          clear e HK
          go_wp2
          go_round
          case rel => exact ⟨j + 1, by omega, by go_num, HE⟩
          case measure => simp [intOf]; omega
    · have e := HJ.out
      rw [List.drop_of_length_le (by omega)] at e
      have HE : Hid (false = T) := by show _ = _; simpa [clT] using e
      clear e HJ
      go_wp2
      go_ret
      exact ⟨by rw [← HE.out]; rfl, rfl⟩
set_option maxHeartbeats 1600000 in
theorem refHolds_any (A A' : Option Addr) (c c' : Nat) (N : Int) (L : List (List Int)) (m : List Bool) (w : World) (h : RC w w.heap.size A L) (h' : RB w w.heap.size A' m) (hn : L.length ≤ maxLen) (hm : m.length ≤ maxLen) :
    Calls Tryd.prog 28 #[.agg #[.int .i64 N, .slice A L.length c], .slice A' m.length c'] w (RetV w (.bool (hoT L m))) := by
  have hb := bal (Below.refl w.heap.size w) (.cells #[.int .i64 N, .slice A L.length c] 24)
  have HB := Lib.hid hb
  have HR := Lib.hid (h.nx hb)
  have HM := Lib.hid (h'.nx hb)
  have HMM := Lib.hid hm
  unfold maxLen at hn hm
  obtain ⟨T, hT⟩ : ∃ T, hoT L m = T := ⟨_, rfl⟩
  rw [hT]
  have HT : Hid (hoT (L.drop 0) m = T) := hT
  obtain ⟨_, q1⟩ := box_cells w (.int .i64 N) (.slice A L.length c) 24
  have qs : w.heap.size < (w.alloc (.cells #[.int .i64 N, .slice A L.length c] 24)).heap.size := by simp
  generalize hw0 : w.alloc (.cells #[.int .i64 N, .slice A L.length c] 24) = w0 at *
  have HW0 := Lib.hid hw0
  clear hT h h' hb hw0
  go_enter Tryd.func28, Tryd.ntmps28
  go_wp2
  rw [HW0.out]
  go_loop [5, 6] (fun i _ => ∃ j : Nat, j ≤ L.length ∧ i = .int .i64 j ∧ Hid (hoT (L.drop j) m = T)) (fun i _ => L.length - (intOf i).toNat)
  case atStart => exact ⟨0, Nat.zero_le _, rfl, HT⟩
  case round =>
    obtain ⟨j, hj, rfl, HJ⟩ := hrel
    clear HT
    by_cases hlt : j < L.length
    · obtain ⟨a1, A1, k1, rfl, _, hc1, r1, m1⟩ := HR.out j hlt
      have hlt' : (j : Int) < L.length := by omega
      have e := HJ.out
      unfold hoT at e
      rw [dropC L j hlt, List.all_cons] at e
      have C := refClause_any A1 A' k1 c' _ m w0 r1 HM.out m1 HMM.out
      generalize L.getD j [] = u at *
      clear HJ r1
      cases hx : clT u m
      · rw [hx] at C
        have HE : Hid (false = T) := by show _ = _; rw [← e, hx]; simp
        clear e hx
        go_wp2_with fail
        refine C.mono ?_; rintro e w1 ⟨rfl, rfl⟩
        clear C
        go_wp2
        go_ret
        exact ⟨by rw [← HE.out]; rfl, HB.out⟩
      · rw [hx] at C
        have HE : Hid (hoT (L.drop (j + 1)) m = T) := by show _ = _; rw [← e, hx]; simp [hoT]
        clear e hx
        go_wp2_with fail
        refine C.mono ?_; rintro e w1 ⟨rfl, rfl⟩
        clear C
        go_wp2
        go_round
        case rel => exact ⟨j + 1, by omega, by go_num, HE⟩
        case measure => simp [intOf]; omega
    · have e := HJ.out
      rw [List.drop_of_length_le (by omega)] at e
      have HE : Hid (true = T) := by show _ = _; simpa [hoT] using e
      clear e HJ
      go_wp2
      go_ret
      exact ⟨by rw [← HE.out]; rfl, HB.out⟩
end Go.Proofs.YtahedhpffjgimaaDoor
/- What the texts on what clauses force lean on: the readings and rows of the texts on formulas. -/
namespace Go.Proofs.YtahedhpffjgimaaDoor
open Go.RowKit
theorem drw {w : World} (n : Nat) : Below w.heap.size w (w.drewN n) := below_drewN (Below.refl _ _) n
end Go.Proofs.YtahedhpffjgimaaDoor
/- Maps keyed by numbers, as functions; what is forced of a variable. -/
namespace Go.Proofs.YtahedhpffjgimaaDoor
open Go.RowKit
open Go.Maps (Keyed int_keyed keyOf_int_mk)
/-- A value read as itself. -/
def selfR (v : Value) : Option (DataW Value × List MemPlace) := some (.held v, [])
theorem law56 : Keyed Tryd.prog 126 := int_keyed Tryd.underlying126
theorem law3 : Keyed Tryd.prog 3 := int_keyed Tryd.underlying3
/-- The map at block b, keyed by numbers of kind q (type k), holds at most n entries; at key x it tells g x. -/
def MapF (w : World) (k : TypeId) (q : IntKind) (b n : Nat) (z : Value) (g : Int → Value) : Prop :=
  ∃ D : DataW Value, w.ownsMap Tryd.prog k selfR b n D ∧ ∀ x : Int, (Lit.int q x).wf = true → D.atKey (.int q x) (.held z) = .held (g x)
theorem MapF.made (w : World) (k : TypeId) (q : IntKind) (z : Value) : MapF (w.alloc (.map #[] 0)) k q w.heap.size 0 z (fun _ => z) :=
  ⟨_, World.ownsMap_made w Tryd.prog k selfR, fun x _ => rfl⟩
theorem MapF.kept {w w' : World} {k : TypeId} {q : IntKind} {b n : Nat} {z : Value} {g : Int → Value} {row : Option Nat} (h : MapF w k q b n z g) (hg : w.grownBy w' row) (hne : some b ≠ row) : MapF w' k q b n z g := by
  obtain ⟨D, h1, h2⟩ := h
  exact ⟨D, h1.kept hg hne, h2⟩
theorem MapF.lt {w : World} {k : TypeId} {q : IntKind} {b n : Nat} {z : Value} {g : Int → Value} (h : MapF w k q b n z g) : b < w.heap.size := by
  obtain ⟨D, h1, h2⟩ := h
  exact h1.lt
theorem MapF.mono {w : World} {k : TypeId} {q : IntKind} {b n n' : Nat} {z : Value} {g : Int → Value} (h : MapF w k q b n z g) (hn : n ≤ n') : MapF w k q b n' z g := by
  obtain ⟨D, h1, h2⟩ := h
  exact ⟨D, h1.mono hn, h2⟩
theorem MapF.get {w : World} {k e t : TypeId} {q : IntKind} {b n : Nat} {z : Value} {g : Int → Value} (h : MapF w k q b n z g) (hk : Tryd.prog.underlying k = some (.int q)) (ht : Tryd.prog.underlying t = some (.map k e)) (hz : (zeroValue e).run Tryd.prog w = .ok z w) {x : Int} (hx : (Lit.int q x).wf = true) :
    (Instr.lookup t (.map (some b)) (.int q x) false).run Tryd.prog w = .ok (g x) w := by
  obtain ⟨D, h1, h2⟩ := h
  obtain ⟨v, ps, hrun, hv⟩ := h1.lookup (int_keyed hk) ht hz (zd := .held z) (zp := []) rfl (keyOf_int_mk hk hx)
  rw [h2 x hx] at hv
  simp only [selfR, Option.some.injEq, Prod.mk.injEq, DataW.held.injEq] at hv
  rw [hrun, hv.1]
theorem MapF.put {w : World} {k e t : TypeId} {q : IntKind} {b n : Nat} {z : Value} {g : Int → Value} (h : MapF w k q b n z g) (hk : Tryd.prog.underlying k = some (.int q)) (ht : Tryd.prog.underlying t = some (.map k e)) (hn : n < maxLen) {x : Int} (hx : (Lit.int q x).wf = true) (v : Value) :
    ∃ w', (Instr.mapUpdate t (.map (some b)) (.int q x) v).run Tryd.prog w = .ok () w' ∧ MapF w' k q b (n + 1) z (fun y => if y = x then v else g y) ∧ w.grownBy w' (some b) := by
  obtain ⟨D, h1, h2⟩ := h
  obtain ⟨w', hrun, h3, h4⟩ := h1.update (int_keyed hk) ht hn (keyOf_int_mk hk hx) (val := v) (d := .held v) (ps := []) rfl
  refine ⟨w', hrun, ⟨_, h3, fun y hy => ?_⟩, h4⟩
  by_cases e : y = x
  · subst e
    show _ = DataW.held (if y = y then v else g y)
    rw [if_pos rfl]
    exact Maps.atKey_put_same (k := .int q y) h1.isMap trivial _ _
  · show _ = DataW.held (if y = x then v else g y)
    rw [if_neg e, Maps.atKey_put_other (by intro e2; injection e2 with _ e3; exact e e3)]
    exact h2 y hy
/-- What is forced of a variable. -/
def heldF (F : List Int) (v : Int) : Int := (F.find? (fun x => x = v ∨ x = -v)).getD 0
theorem heldF_in {F : List Int} {x : Int} (hx : x ∈ F) (hn : -x ∉ F) (h0 : 0 ≤ x ∨ x ≤ 0) : heldF F x.natAbs = x := by
  unfold heldF
  have hs : (F.find? (fun y => decide (y = (x.natAbs : Int) ∨ y = -(x.natAbs : Int)))).isSome := by
    rw [List.find?_isSome]
    exact ⟨x, hx, by simp; omega⟩
  obtain ⟨y, hy⟩ := Option.isSome_iff_exists.1 hs
  rw [hy]
  have h1 := List.mem_of_find?_eq_some hy
  have h2 := List.find?_some hy
  simp only [decide_eq_true_eq] at h2
  by_cases e : y = x
  · exact e
  · exfalso; exact hn (by rw [show -x = y by omega]; exact h1)
theorem heldF_out {F : List Int} {x : Int} (hx : x ∉ F) (hn : -x ∉ F) : heldF F x.natAbs = 0 := by
  unfold heldF
  have : F.find? (fun y => decide (y = (x.natAbs : Int) ∨ y = -(x.natAbs : Int))) = none := by
    rw [List.find?_eq_none]
    intro y hy
    simp only [decide_eq_true_eq]
    rintro (h | h)
    · by_cases e : y = x
      · exact hx (e ▸ hy)
      · exact hn (by rw [show -x = y by omega]; exact hy)
    · by_cases e : y = x
      · exact hx (e ▸ hy)
      · exact hn (by rw [show -x = y by omega]; exact hy)
  rw [this]; rfl
theorem heldF_eq {F : List Int} {x : Int} (x0 : x ≠ 0) (hc : x ∈ F → -x ∉ F) : heldF F x.natAbs = x ↔ x ∈ F := by
  constructor
  · intro h
    apply Classical.byContradiction
    intro hx
    by_cases hn : -x ∈ F
    · have := heldF_in hn (by rw [Int.neg_neg]; exact hx) (by omega)
      rw [Int.natAbs_neg, h] at this; omega
    · rw [heldF_out hx hn] at h; exact x0 h.symm
  · intro h; exact heldF_in h (hc h) (by omega)
theorem heldF_neg {F : List Int} {x : Int} (x0 : x ≠ 0) (hc : -x ∈ F → x ∉ F) : heldF F x.natAbs = -x ↔ -x ∈ F := by
  have := heldF_eq (F := F) (x := -x) (by omega) (by rw [Int.neg_neg]; exact hc)
  rwa [Int.natAbs_neg] at this
theorem heldF_more {F : List Int} {x : Int} (hx : x ∉ F) (hn : -x ∉ F) (v : Int) (hv : 0 ≤ v) : heldF (F ++ [x]) v = if v = x.natAbs then x else heldF F v := by
  by_cases e : v = x.natAbs
  · rw [if_pos e]
    have h0 := heldF_out hx hn
    subst e
    unfold heldF at h0 ⊢
    rw [List.find?_append]
    have hno : F.find? (fun y => decide (y = (x.natAbs : Int) ∨ y = -(x.natAbs : Int))) = none := by
      rw [List.find?_eq_none]
      intro y hy
      simp only [decide_eq_true_eq]
      intro h
      by_cases e : y = x
      · exact hx (e ▸ hy)
      · exact hn (by rw [show -x = y by omega]; exact hy)
    rw [hno]
    simp only [Option.none_or, List.find?_cons]
    rw [decide_eq_true (by omega)]
    rfl
  · rw [if_neg e]
    unfold heldF
    rw [List.find?_append]
    have : [x].find? (fun y => decide (y = v ∨ y = -v)) = none := by
      simp only [List.find?_cons, List.find?_nil]
      rw [decide_eq_false (by omega)]
    rw [this, Option.or_none]
theorem grown_set {w : World} (a : Addr) (v : Value) : w.grownBy (w.setCell a v) (some a.block) := by
  refine ⟨rfl, rfl, rfl, by simp, fun k hk hne => ?_⟩
  have hk' : k ≠ a.block := fun e => hne (by rw [e])
  simp only [World.setCell]
  rw [Array.getElem?_modify, if_neg hk'.symm]
theorem grown_drew {w : World} (n : Nat) (row : Option Nat) : w.grownBy (w.drewN n) row := by
  have h := drw (w := w) n
  exact ⟨h.os, h.tape, h.output, h.size, fun k hk _ => h.block k hk⟩
theorem grown_below {w w' : World} (h : Below w.heap.size w w') (row : Option Nat) : w.grownBy w' row := ⟨h.os, h.tape, h.output, h.size, fun k hk _ => h.block k hk⟩
end Go.Proofs.YtahedhpffjgimaaDoor
