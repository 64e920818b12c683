/-
  Slices of numbers, flags and clauses as they are read; the closures of package cnf.
  cnf.Clause and what it calls over the translated program.
  cnf.Same and what it calls over the translated program.
  cnf.Right and cnf.Holds over the translated program.
  Three functions of Go's library stand in this program as the library's shelf of contracts knows them: the tables of numbers, each fact by the kernel. No conditions.
-/
import Derived.Test.YtahedhpffjgimaaDoorProg
import Derived.WalkKit
import Derived.WalkSpells
import Derived.WalkLawsBesides
import Derived.Lib.Hide
import Derived.BigQuiet
import Derived.Deep.QuietTactic
import Derived.Deep.RegionWith
import Derived.Deep.RegionHeld3
import Derived.Test.YtahedhpffjgimaaDoorQ01
import Derived.Shelf.Strings.Builder1
import Derived.Shelf.Strconv.Itoa0
import Derived.Shelf.Strconv.Itoa1
import Derived.Shelf.LaysM
import Derived.Shelf.Strconv.Itoa2
import Derived.Shelf.Strconv.Itoa3
set_option linter.unusedVariables false
/- Slices of numbers, flags and clauses as they are read; the closures of package cnf. -/
namespace Go.Proofs.YtahedhpffjgimaaDoor
open Go.RowKit
/-- The slice at A holds the numbers l, in a block below B. -/
def RI (w : World) (B : Nat) (A : Option Addr) (l : List Int) : Prop :=
  ∀ i, i < l.length → ∃ ad, A = some ad ∧ ad.block < B ∧ w.cell? (ad.add i) = some (.int .i64 (l.getD i 0))
theorem RI.below {w w' : World} {B : Nat} {A : Option Addr} {l : List Int} (h : RI w B A l) (hb : Below B w w') : RI w' B A l := by
  intro i hi
  obtain ⟨ad, e, hlt, hc⟩ := h i hi
  exact ⟨ad, e, hlt, (hb.cell (by rw [block_add]; exact hlt)).trans hc⟩
theorem RI.mono {w : World} {B B' : Nat} {A : Option Addr} {l : List Int} (h : RI w B A l) (hB : B ≤ B') : RI w B' A l := by
  intro i hi
  obtain ⟨ad, e, hlt, hc⟩ := h i hi
  exact ⟨ad, e, by omega, hc⟩
theorem RI.nx {w w' : World} {A : Option Addr} {l : List Int} (h : RI w w.heap.size A l) (hb : Below w.heap.size w w') : RI w' w'.heap.size A l := (h.below hb).mono hb.size
theorem RI.nil (w : World) (B : Nat) (A : Option Addr) : RI w B A [] := fun i hi => absurd hi (by simp)
/-- The slice at A holds the flags l, in a block below B. -/
def RB (w : World) (B : Nat) (A : Option Addr) (l : List Bool) : Prop :=
  ∀ i, i < l.length → ∃ ad, A = some ad ∧ ad.block < B ∧ w.cell? (ad.add i) = some (.bool (l.getD i false))
theorem RB.below {w w' : World} {B : Nat} {A : Option Addr} {l : List Bool} (h : RB w B A l) (hb : Below B w w') : RB w' B A l := by
  intro i hi
  obtain ⟨ad, e, hlt, hc⟩ := h i hi
  exact ⟨ad, e, hlt, (hb.cell (by rw [block_add]; exact hlt)).trans hc⟩
theorem RB.mono {w : World} {B B' : Nat} {A : Option Addr} {l : List Bool} (h : RB w B A l) (hB : B ≤ B') : RB w B' A l := by
  intro i hi
  obtain ⟨ad, e, hlt, hc⟩ := h i hi
  exact ⟨ad, e, by omega, hc⟩
theorem RB.nx {w w' : World} {A : Option Addr} {l : List Bool} (h : RB w w.heap.size A l) (hb : Below w.heap.size w w') : RB w' w'.heap.size A l := (h.below hb).mono hb.size
/-- The slice at A holds the clauses L, all in blocks below B. -/
def RC (w : World) (B : Nat) (A : Option Addr) (L : List (List Int)) : Prop :=
  ∀ i, i < L.length → ∃ ad A' c', A = some ad ∧ ad.block < B ∧ w.cell? (ad.add i) = some (.slice A' (L.getD i []).length c') ∧ RI w B A' (L.getD i []) ∧ (L.getD i []).length ≤ maxLen
theorem RC.below {w w' : World} {B : Nat} {A : Option Addr} {L : List (List Int)} (h : RC w B A L) (hb : Below B w w') : RC w' B A L := by
  intro i hi
  obtain ⟨ad, A', c', e, hlt, hc, hr, hm⟩ := h i hi
  exact ⟨ad, A', c', e, hlt, (hb.cell (by rw [block_add]; exact hlt)).trans hc, hr.below hb, hm⟩
theorem RC.mono {w : World} {B B' : Nat} {A : Option Addr} {L : List (List Int)} (h : RC w B A L) (hB : B ≤ B') : RC w B' A L := by
  intro i hi
  obtain ⟨ad, A', c', e, hlt, hc, hr, hm⟩ := h i hi
  exact ⟨ad, A', c', e, by omega, hc, hr.mono hB, hm⟩
theorem RC.nx {w w' : World} {A : Option Addr} {L : List (List Int)} (h : RC w w.heap.size A L) (hb : Below w.heap.size w w') : RC w' w'.heap.size A L := (h.below hb).mono hb.size
theorem bnx {a w w1 : World} (h : Below a.heap.size a w) (hb : Below w.heap.size w w1) : Below a.heap.size a w1 := h.trans (hb.mono h.size)
theorem bal {a w : World} (h : Below a.heap.size a w) (o : Obj) : Below a.heap.size a (w.alloc o) := h.alloc h.size o
theorem dropI (l : List Int) (k : Nat) (h : k < l.length) : l.drop k = l.getD k 0 :: l.drop (k + 1) := by
  rw [List.drop_eq_getElem_cons h]; simp [List.getD, h]
theorem dropB (l : List Bool) (k : Nat) (h : k < l.length) : l.drop k = l.getD k false :: l.drop (k + 1) := by
  rw [List.drop_eq_getElem_cons h]; simp [List.getD, h]
theorem dropC (l : List (List Int)) (k : Nat) (h : k < l.length) : l.drop k = l.getD k [] :: l.drop (k + 1) := by
  rw [List.drop_eq_getElem_cons h]; simp [List.getD, h]
/-- A call that tells a value, and leaves all as it was. -/
def RetS (w0 : World) (v : Value) (e : Ending) (w' : World) : Prop := e = .returned v ∧ w0 = w'
/-- A call that tells a value, and changes nothing that was there. -/
def RetV (w0 : World) (v : Value) (e : Ending) (w' : World) : Prop := e = .returned v ∧ Below w0.heap.size w0 w'
/-- A call that tells whether there is a place. -/
def RetIdx (w0 : World) (b : Bool) (e : Ending) (w' : World) : Prop := ∃ r : Int, decide (0 ≤ r) = b ∧ e = .returned (.int .i64 r) ∧ w0 = w'
/-- Is a literal true? -/
def litT (m : List Bool) (x : Int) : Bool :=
  if 0 < x then decide (x ≤ m.length) && m.getD (x - 1).toNat false else decide (x < 0) && decide (-(m.length : Int) ≤ x) && !m.getD (-x - 1).toNat false
def clT (c : List Int) (m : List Bool) : Bool := c.any (litT m)
def hoT (L : List (List Int)) (m : List Bool) : Bool := L.all (fun c => clT c m)
/-- Is it no literal of n variables? -/
def badL (n x : Int) : Bool := x == 0 || decide (x < -n) || decide (n < x)
set_option maxHeartbeats 400000 in
theorem bad_any (g : Nat) (n x : Int) (w : World) (h : w.cell? ⟨g, 0, none⟩ = some (.int .i64 n)) (h0 : 0 ≤ n) (h1 : n ≤ 100000) :
    Calls Tryd.prog 63 #[.int .i64 x, .pointer (some ⟨g, 0, none⟩)] w (RetS w (.bool (badL n x))) := by
  unfold badL
  have c : (x == 0) = true ∨ ((x == 0) = false ∧ decide (x < -n) = true) ∨ ((x == 0) = false ∧ decide (x < -n) = false ∧ decide (n < x) = true) ∨ ((x == 0) = false ∧ decide (x < -n) = false ∧ decide (n < x) = false) := by
    cases (x == 0) <;> cases decide (x < -n) <;> cases decide (n < x) <;> simp
  rcases c with c1 | ⟨c1, c2⟩ | ⟨c1, c2, c3⟩ | ⟨c1, c2, c3⟩
  all_goals
    simp only [*, Bool.true_or, Bool.or_true, Bool.false_or]
    go_enter Tryd.func63, Tryd.ntmps63
    go_wp2
    go_ret
    exact ⟨rfl, rfl⟩
end Go.Proofs.YtahedhpffjgimaaDoor
/- cnf.Clause and what it calls over the translated program. -/
namespace Go.Proofs.YtahedhpffjgimaaDoor
open Go.RowKit
set_option maxHeartbeats 400000 in
theorem isTrue_any (g : Nat) (x : Int) (A : Option Addr) (c : Nat) (m : List Bool) (w : World) (hc : w.cell? ⟨g, 0, none⟩ = some (.slice A m.length c)) (h : RB w w.heap.size A m) (hn : m.length ≤ maxLen) :
    Calls Tryd.prog 37 #[.int .i64 x, .pointer (some ⟨g, 0, none⟩)] w (RetS w (.bool (litT m x))) := by
  unfold maxLen at hn
  unfold litT
  by_cases h0 : 0 < x
  · rw [if_pos h0]
    by_cases h1 : x ≤ m.length
    · obtain ⟨ad, rfl, hb, hcell⟩ := h (x - 1).toNat (by omega)
      have h1' : decide (x ≤ (m.length : Int)) = true := decide_eq_true h1
      rw [h1', Bool.true_and]
      have hx1 : 0 ≤ x - 1 := by omega
      have hx2 : x - 1 < (m.length : Int) := by omega
      have hx3 : 1 ≤ x := by omega
      have e1 : (x - 1).toNat = x.toNat - 1 := by omega
      rw [e1] at hcell ⊢
      clear e1
      generalize m.getD (x.toNat - 1) false = v at *
      clear h
      go_enter Tryd.func37, Tryd.ntmps37
      go_wp2
      go_ret
      exact ⟨rfl, rfl⟩
    · have h1' : decide (x ≤ (m.length : Int)) = false := decide_eq_false h1
      rw [h1', Bool.false_and]
      clear h
      go_enter Tryd.func37, Tryd.ntmps37
      go_wp2
      go_ret
      exact ⟨rfl, rfl⟩
  · rw [if_neg h0]
    have h0' : decide (0 < x) = false := decide_eq_false h0
    by_cases h2 : x < 0
    · have h2' : decide (x < 0) = true := decide_eq_true h2
      by_cases h1 : -(m.length : Int) ≤ x
      · obtain ⟨ad, rfl, hb, hcell⟩ := h (-x - 1).toNat (by omega)
        have h1' : decide (-(m.length : Int) ≤ x) = true := decide_eq_true h1
        rw [h1', h2', Bool.true_and, Bool.true_and]
        have hx1 : 0 ≤ -x - 1 := by omega
        have hx2 : -x - 1 < (m.length : Int) := by omega
        have e1 : (-x - 1).toNat = (-x).toNat - 1 := by omega
        rw [e1] at hcell ⊢
        clear e1
        have hx3 : 1 ≤ -x := by omega
        generalize m.getD ((-x).toNat - 1) false = v at *
        clear h
        go_enter Tryd.func37, Tryd.ntmps37
        go_wp2
        go_ret
        exact ⟨rfl, rfl⟩
      · have h1' : decide (-(m.length : Int) ≤ x) = false := decide_eq_false h1
        rw [h1', h2', Bool.and_false, Bool.false_and]
        clear h
        go_enter Tryd.func37, Tryd.ntmps37
        go_wp2
        go_ret
        exact ⟨rfl, rfl⟩
    · have h2' : decide (x < 0) = false := decide_eq_false h2
      rw [h2', Bool.false_and, Bool.false_and]
      clear h
      go_enter Tryd.func37, Tryd.ntmps37
      go_wp2
      go_ret
      exact ⟨rfl, rfl⟩
set_option maxHeartbeats 400000 in
theorem index_true (A : Option Addr) (c : Nat) (l : List Int) (p : Int → Bool) (g : Nat) (w : World) (h : RI w w.heap.size A l) (hn : l.length ≤ maxLen)
    (HP : Hid (∀ x ∈ l, Calls Tryd.prog 37 #[.int .i64 x, .pointer (some ⟨g, 0, none⟩)] w (RetS w (.bool (p x))))) :
    Calls Tryd.prog 64 #[.slice A l.length c, .func (.func 37) #[] #[.pointer (some ⟨g, 0, none⟩)]] w (RetIdx w (l.any p)) := by
  unfold maxLen at hn
  obtain ⟨T, hT⟩ : ∃ T, l.any p = T := ⟨_, rfl⟩
  rw [hT]
  have HT : Hid (l.any p = T) := hT
  clear hT
  go_enter Tryd.func64, Tryd.ntmps64
  go_wp2
  go_loop [8] (fun i => ∃ j : Nat, j ≤ l.length ∧ i = .int .i64 j ∧ Hid ((l.drop j).any p = T)) (fun i => l.length - (intOf i).toNat)
  case atStart => exact ⟨0, Nat.zero_le _, rfl, HT⟩
  case round =>
    obtain ⟨j, hj, rfl, HJ⟩ := hrel
    by_cases hlt : j < l.length
    · obtain ⟨ad, rfl, hb, hc⟩ := h j hlt
      have e := HJ.out
      rw [dropI l j hlt, List.any_cons] at e
      have hcall := HP.out (l.getD j 0) (by simp [List.getD_eq_getElem?_getD, hlt])
      generalize l.getD j 0 = x at *
      clear HJ HT HP h
      cases hp : p x
      · rw [hp] at e hcall
        have HE : Hid ((l.drop (j + 1)).any p = T) := by show _ = _; simpa using e
        clear e
        go_wp2_with fail
        refine hcall.mono ?_; rintro e w' ⟨rfl, rfl⟩
        go_wp2
        go_round
        case rel => exact ⟨j + 1, by omega, by go_num, HE⟩
        case measure => simp [intOf]; omega
      · rw [hp] at e hcall
        have HE : Hid (true = T) := by show _ = _; simpa using e
        clear e
        go_wp2_with fail
        refine hcall.mono ?_; rintro e w' ⟨rfl, rfl⟩
        go_wp2
        go_ret
        exact ⟨j, by rw [← HE.out]; simp, rfl, rfl⟩
    · have e := HJ.out
      rw [List.drop_of_length_le (by omega)] at e
      have HE : Hid (false = T) := by show _ = _; simpa using e
      clear e HJ HT HP h
      go_wp2
      go_ret
      exact ⟨-1, by rw [← HE.out]; simp, rfl, rfl⟩
set_option maxHeartbeats 400000 in
theorem contains_true (A : Option Addr) (c : Nat) (l : List Int) (p : Int → Bool) (g : Nat) (w : World) (h : RI w w.heap.size A l) (hn : l.length ≤ maxLen)
    (HP : Hid (∀ x ∈ l, Calls Tryd.prog 37 #[.int .i64 x, .pointer (some ⟨g, 0, none⟩)] w (RetS w (.bool (p x))))) :
    Calls Tryd.prog 38 #[.slice A l.length c, .func (.func 37) #[] #[.pointer (some ⟨g, 0, none⟩)]] w (RetS w (.bool (l.any p))) := by
  have C := index_true A c l p g w h hn HP
  generalize l.any p = b at *
  clear h HP
  go_enter Tryd.func38, Tryd.ntmps38
  go_wp2_with fail
  refine C.mono ?_; rintro e w' ⟨r, hr, rfl, rfl⟩
  go_wp2
  go_ret
  exact ⟨rfl, rfl⟩
set_option maxHeartbeats 400000 in
theorem index_bad (A : Option Addr) (c : Nat) (l : List Int) (p : Int → Bool) (g : Nat) (w : World) (h : RI w w.heap.size A l) (hn : l.length ≤ maxLen)
    (HP : Hid (∀ x ∈ l, Calls Tryd.prog 63 #[.int .i64 x, .pointer (some ⟨g, 0, none⟩)] w (RetS w (.bool (p x))))) :
    Calls Tryd.prog 64 #[.slice A l.length c, .func (.func 63) #[] #[.pointer (some ⟨g, 0, none⟩)]] w (RetIdx w (l.any p)) := by
  unfold maxLen at hn
  obtain ⟨T, hT⟩ : ∃ T, l.any p = T := ⟨_, rfl⟩
  rw [hT]
  have HT : Hid (l.any p = T) := hT
  clear hT
  go_enter Tryd.func64, Tryd.ntmps64
  go_wp2
  go_loop [8] (fun i => ∃ j : Nat, j ≤ l.length ∧ i = .int .i64 j ∧ Hid ((l.drop j).any p = T)) (fun i => l.length - (intOf i).toNat)
  case atStart => exact ⟨0, Nat.zero_le _, rfl, HT⟩
  case round =>
    obtain ⟨j, hj, rfl, HJ⟩ := hrel
    by_cases hlt : j < l.length
    · obtain ⟨ad, rfl, hb, hc⟩ := h j hlt
      have e := HJ.out
      rw [dropI l j hlt, List.any_cons] at e
      have hcall := HP.out (l.getD j 0) (by simp [List.getD_eq_getElem?_getD, hlt])
      generalize l.getD j 0 = x at *
      clear HJ HT HP h
      cases hp : p x
      · rw [hp] at e hcall
        have HE : Hid ((l.drop (j + 1)).any p = T) := by show _ = _; simpa using e
        clear e
        go_wp2_with fail
        refine hcall.mono ?_; rintro e w' ⟨rfl, rfl⟩
        go_wp2
        go_round
        case rel => exact ⟨j + 1, by omega, by go_num, HE⟩
        case measure => simp [intOf]; omega
      · rw [hp] at e hcall
        have HE : Hid (true = T) := by show _ = _; simpa using e
        clear e
        go_wp2_with fail
        refine hcall.mono ?_; rintro e w' ⟨rfl, rfl⟩
        go_wp2
        go_ret
        exact ⟨j, by rw [← HE.out]; simp, rfl, rfl⟩
    · have e := HJ.out
      rw [List.drop_of_length_le (by omega)] at e
      have HE : Hid (false = T) := by show _ = _; simpa using e
      clear e HJ HT HP h
      go_wp2
      go_ret
      exact ⟨-1, by rw [← HE.out]; simp, rfl, rfl⟩
set_option maxHeartbeats 400000 in
theorem contains_bad (A : Option Addr) (c : Nat) (l : List Int) (p : Int → Bool) (g : Nat) (w : World) (h : RI w w.heap.size A l) (hn : l.length ≤ maxLen)
    (HP : Hid (∀ x ∈ l, Calls Tryd.prog 63 #[.int .i64 x, .pointer (some ⟨g, 0, none⟩)] w (RetS w (.bool (p x))))) :
    Calls Tryd.prog 38 #[.slice A l.length c, .func (.func 63) #[] #[.pointer (some ⟨g, 0, none⟩)]] w (RetS w (.bool (l.any p))) := by
  have C := index_bad A c l p g w h hn HP
  generalize l.any p = b at *
  clear h HP
  go_enter Tryd.func38, Tryd.ntmps38
  go_wp2_with fail
  refine C.mono ?_; rintro e w' ⟨r, hr, rfl, rfl⟩
  go_wp2
  go_ret
  exact ⟨rfl, rfl⟩
set_option maxHeartbeats 400000 in
theorem Clause_any (A A' : Option Addr) (c c' : Nat) (l : List Int) (m : List Bool) (w : World) (h : RI w w.heap.size A l) (h' : RB w w.heap.size A' m) (hn : l.length ≤ maxLen) (hm : m.length ≤ maxLen) :
    Calls Tryd.prog 13 #[.slice A l.length c, .slice A' m.length c'] w (RetV w (.bool (clT l m))) := by
  have hb := bal (Below.refl w.heap.size w) (.cells #[.slice A' m.length c'] 25)
  have C := contains_true A c l (litT m) w.heap.size (w.alloc (.cells #[.slice A' m.length c'] 25)) (h.nx hb) hn (fun x _ => isTrue_any w.heap.size x A' c' m _ (by go_simp) (h'.nx hb) hm)
  have HB := Lib.hid hb
  unfold clT
  generalize l.any (litT m) = b at *
  clear h h' hb
  go_enter Tryd.func13, Tryd.ntmps13
  go_wp2_with fail
  refine C.mono ?_; rintro e w' ⟨rfl, rfl⟩
  go_wp2
  go_ret
  exact ⟨rfl, HB.out⟩
end Go.Proofs.YtahedhpffjgimaaDoor
/- cnf.Same and what it calls over the translated program. -/
namespace Go.Proofs.YtahedhpffjgimaaDoor
open Go.RowKit
theorem Rd.drw {w : World} (n : Nat) : Below w.heap.size w (w.drewN n) := below_drewN (Below.refl _ _) n
set_option maxHeartbeats 400000 in
theorem Equal_any (A A' : Option Addr) (c c' : Nat) (l l' : List Int) (w : World) (h : RI w w.heap.size A l) (h' : RI w w.heap.size A' l') (hn : l.length ≤ maxLen) (hn' : l'.length ≤ maxLen) :
    Calls Tryd.prog 41 #[.slice A l.length c, .slice A' l'.length c'] w (RetV w (.bool (l == l'))) := by
  unfold maxLen at hn hn'
  by_cases hl : l.length = l'.length
  · have hne : ((l.length : Int) != (l'.length : Int)) = false := by simp [hl]
    obtain ⟨T, hT⟩ : ∃ T, (l == l') = T := ⟨_, rfl⟩
    rw [hT]
    have HT : Hid ((l == l') = T) := hT
    clear hT
    have HL := Lib.hid hl
    clear hl
    go_enter Tryd.func41, Tryd.ntmps41
    go_wp2
    go_loopw [13] (fun i wr => ∃ (j q : Nat), j ≤ l.length ∧ i = .int .i64 j ∧ wr = w.drewN q ∧ Hid ((l.drop j == l'.drop j) = T)) (fun i _ => l.length - (intOf i).toNat)
    case atStart => exact ⟨0, 0, Nat.zero_le _, rfl, rfl, HT⟩
    case round =>
      obtain ⟨j, q, hj, rfl, rfl, HJ⟩ := hrel
      by_cases hlt : j < l.length
      · obtain ⟨a1, rfl, _, hc1⟩ := h j hlt
        obtain ⟨a2, rfl, _, hc2⟩ := h' j (by rw [← HL.out]; exact hlt)
        have hlt' : (j : Int) < l.length := by omega
        have hlt2 : (j : Int) < l'.length := by have := HL.out; omega
        have e := HJ.out
        rw [dropI l j hlt, dropI l' j (by rw [← HL.out]; exact hlt)] at e
        generalize l.getD j 0 = u at *
        generalize l'.getD j 0 = v at *
        by_cases huv : u = v
        · subst huv
          have hvv : (u != u) = false := by simp
          have HE : Hid ((l.drop (j + 1) == l'.drop (j + 1)) = T) := by show _ = _; simpa using e
          clear e HJ HT h h'
          go_wp2
          go_quiet (fail)
          go_wp2
          go_roundw
          case rel => exact ⟨j + 1, _, by omega, by go_num, rfl, HE⟩
          case measure => simp [intOf]; omega
        · have hvv : (u != v) = true := by simp [huv]
          have HE : Hid (false = T) := by show _ = _; rw [← e, List.cons_beq_cons, beq_eq_false_iff_ne.2 huv, Bool.false_and]
          clear e HJ HT h h' huv
          go_wp2
          go_quiet (fail)
          go_wp2
          go_ret
          exact ⟨by rw [← HE.out]; rfl, below_drewN (Rd.drw _) _⟩
      · have e := HJ.out
        rw [List.drop_of_length_le (by omega), List.drop_of_length_le (by have := HL.out; omega)] at e
        have HE : Hid (true = T) := by show _ = _; simpa using e
        clear e HJ HT h h'
        go_wp2
        go_ret
        exact ⟨by rw [← HE.out]; rfl, Rd.drw _⟩
  · have hne : ((l.length : Int) != (l'.length : Int)) = true := by simp; omega
    have hf : (l == l') = false := by rw [beq_eq_false_iff_ne]; intro e; exact hl (by rw [e])
    rw [hf]
    clear hl h h'
    go_enter Tryd.func41, Tryd.ntmps41
    go_wp2
    go_ret
    exact ⟨rfl, Below.refl _ _⟩
set_option maxHeartbeats 400000 in
theorem EqualFunc_any (A A' : Option Addr) (c c' : Nat) (L L' : List (List Int)) (w : World) (h : RC w w.heap.size A L) (h' : RC w w.heap.size A' L') (hn : L.length ≤ maxLen) (hn' : L'.length ≤ maxLen) :
    Calls Tryd.prog 62 #[.slice A L.length c, .slice A' L'.length c', .func (.func 41) #[] #[]] w (RetV w (.bool (L == L'))) := by
  unfold maxLen at hn hn'
  by_cases hl : L.length = L'.length
  · have hne : ((L.length : Int) != (L'.length : Int)) = false := by simp [hl]
    obtain ⟨T, hT⟩ : ∃ T, (L == L') = T := ⟨_, rfl⟩
    rw [hT]
    have HT : Hid ((L == L') = T) := hT
    clear hT
    have HL := Lib.hid hl
    clear hl
    go_enter Tryd.func62, Tryd.ntmps62
    go_wp2
    go_loopw [17] (fun i wr => ∃ (j : Nat), j ≤ L.length ∧ i = .int .i64 j ∧ Below w.heap.size w wr ∧ Hid ((L.drop j == L'.drop j) = T)) (fun i _ => L.length - (intOf i).toNat)
    case atStart => exact ⟨0, Nat.zero_le _, rfl, Below.refl _ _, HT⟩
    case round =>
      obtain ⟨j, hj, rfl, hB, HJ⟩ := hrel
      by_cases hlt : j < L.length
      · obtain ⟨a1, A1, c1, rfl, _, hc1, r1, m1⟩ := (h.nx hB) j hlt
        obtain ⟨a2, A2, c2, rfl, _, hc2, r2, m2⟩ := (h'.nx hB) j (by rw [← HL.out]; exact hlt)
        have hlt' : (j : Int) < L.length := by omega
        have hlt2 : (j : Int) < L'.length := by have := HL.out; omega
        have e := HJ.out
        rw [dropC L j hlt, dropC L' j (by rw [← HL.out]; exact hlt)] at e
        have C := Equal_any A1 A2 c1 c2 _ _ wr r1 r2 m1 m2
        generalize L.getD j [] = u at *
        generalize L'.getD j [] = v at *
        have HB := Lib.hid hB
        by_cases huv : u = v
        · subst huv
          have hvv : (u == u) = true := by simp
          rw [hvv] at C
          have HE : Hid ((L.drop (j + 1) == L'.drop (j + 1)) = T) := by show _ = _; simpa using e
          clear e HJ HT h h' r1 r2 hB hvv
          go_wp2_with fail
          refine C.mono ?_; rintro e w1 ⟨rfl, hb⟩
          go_wp2
          go_roundw
          case rel => exact ⟨j + 1, by omega, by go_num, bnx HB.out hb, HE⟩
          case measure => simp [intOf]; omega
        · have hvv : (u == v) = false := by simp [huv]
          rw [hvv] at C
          have HE : Hid (false = T) := by show _ = _; rw [← e, List.cons_beq_cons, beq_eq_false_iff_ne.2 huv, Bool.false_and]
          clear e HJ HT h h' r1 r2 hB hvv huv
          go_wp2_with fail
          refine C.mono ?_; rintro e w1 ⟨rfl, hb⟩
          go_wp2
          go_ret
          exact ⟨by rw [← HE.out]; rfl, bnx HB.out hb⟩
      · have e := HJ.out
        rw [List.drop_of_length_le (by omega), List.drop_of_length_le (by have := HL.out; omega)] at e
        have HE : Hid (true = T) := by show _ = _; simpa using e
        clear e HJ HT h h'
        go_wp2
        go_ret
        exact ⟨by rw [← HE.out]; rfl, hB⟩
  · have hne : ((L.length : Int) != (L'.length : Int)) = true := by simp; omega
    have hf : (L == L') = false := by rw [beq_eq_false_iff_ne]; intro e; exact hl (by rw [e])
    rw [hf]
    clear hl h h'
    go_enter Tryd.func62, Tryd.ntmps62
    go_wp2
    go_ret
    exact ⟨rfl, Below.refl _ _⟩
/-- Two values in a box. -/
theorem box_cells (w : World) (x y : Value) (t : TypeId) : (w.alloc (.cells #[x, y] t)).cell? ⟨w.heap.size, 0, none⟩ = some x ∧ (w.alloc (.cells #[x, y] t)).cell? ⟨w.heap.size, 1, none⟩ = some y := by constructor <;> go_simp
def sameF (N M : Int) (L L' : List (List Int)) : Bool := N == M && L == L'
set_option maxHeartbeats 400000 in
theorem Same_any (A A' : Option Addr) (c c' : Nat) (N M : Int) (L L' : List (List Int)) (w : World) (h : RC w w.heap.size A L) (h' : RC w w.heap.size A' L') (hn : L.length ≤ maxLen) (hn' : L'.length ≤ maxLen) :
    Calls Tryd.prog 34 #[.agg #[.int .i64 N, .slice A L.length c], .agg #[.int .i64 M, .slice A' L'.length c']] w (RetV w (.bool (sameF N M L L'))) := by
  unfold sameF
  have hb := bal (bal (Below.refl w.heap.size w) (.cells #[.int .i64 N, .slice A L.length c] 24)) (.cells #[.int .i64 M, .slice A' L'.length c'] 24)
  have C := EqualFunc_any A A' c c' L L' _ (h.nx hb) (h'.nx hb) hn hn'
  have HB := Lib.hid hb
  generalize (L == L') = b at *
  clear h h' hb
  cases hnm : (N == M)
  · simp only [Bool.false_and]
    clear C
    go_enter Tryd.func34, Tryd.ntmps34
    go_wp2
    go_ret
    exact ⟨rfl, HB.out⟩
  · simp only [Bool.true_and]
    go_enter Tryd.func34, Tryd.ntmps34
    go_wp2_with fail
    refine C.mono ?_; rintro e w1 ⟨rfl, hb1⟩
    go_wp2
    go_ret
    exact ⟨rfl, bnx HB.out hb1⟩
end Go.Proofs.YtahedhpffjgimaaDoor
/- cnf.Right and cnf.Holds over the translated program. -/
namespace Go.Proofs.YtahedhpffjgimaaDoor
open Go.RowKit
/-- Which formulas are right. -/
def rightC (N : Int) (c : List Int) : Bool := decide (c.length ≤ 1000) && !c.any (badL N)
def rightF (N : Int) (L : List (List Int)) : Bool := decide (0 ≤ N) && decide (N ≤ 100000) && decide (L.length ≤ 20000) && L.all (rightC N)
set_option maxHeartbeats 800000 in
theorem Right_in (A : Option Addr) (c : Nat) (N : Int) (L : List (List Int)) (w : World) (h : RC w w.heap.size A L) (h0 : 0 ≤ N) (h1 : N ≤ 100000) (h2 : L.length ≤ 20000) :
    Calls Tryd.prog 36 #[.agg #[.int .i64 N, .slice A L.length c]] w (RetV w (.bool (L.all (rightC N)))) := by
  have hb := bal (Below.refl w.heap.size w) (.cells #[.int .i64 N, .slice A L.length c] 24)
  have HB := Lib.hid hb
  have hr := Lib.hid (h.nx hb)
  have hc0 := (box_cells w (.int .i64 N) (.slice A L.length c) 24).1
  have HP := Lib.hid (fun x => bad_any w.heap.size N x _ hc0 h0 h1)
  obtain ⟨T, hT⟩ : ∃ T, L.all (rightC N) = T := ⟨_, rfl⟩
  rw [hT]
  have HT : Hid (L.all (rightC N) = T) := hT
  have d1 : decide (N < 0) = false := decide_eq_false (by omega)
  have d2 : decide (100000 < N) = false := decide_eq_false (by omega)
  have d3 : decide ((20000 : Int) < L.length) = false := decide_eq_false (by omega)
  clear hT h hb hc0
  go_enter Tryd.func36, Tryd.ntmps36
  go_wp2
  go_loop [24] (fun i => ∃ j : Nat, j ≤ L.length ∧ i = .int .i64 j ∧ Hid ((L.drop j).all (rightC N) = T)) (fun i => L.length - (intOf i).toNat)
  case atStart => exact ⟨0, Nat.zero_le _, rfl, HT⟩
  case round =>
    obtain ⟨j, hj, rfl, HJ⟩ := hrel
    by_cases hlt : j < L.length
    · obtain ⟨a1, A1, c1, rfl, _, hc1, r1, m1⟩ := hr.out j hlt
      have e := HJ.out
      rw [dropC L j hlt, List.all_cons] at e
      have C := contains_bad A1 c1 _ (badL N) w.heap.size _ r1 m1 (fun x _ => HP.out x)
      unfold maxLen at m1
      generalize L.getD j [] = u at *
      clear HJ HT HP r1 hr
      by_cases hu : u.length ≤ 1000
      · have d4 : decide ((1000 : Int) < u.length) = false := decide_eq_false (by omega)
        cases hx : u.any (badL N)
        · rw [hx] at C
          have HE : Hid ((L.drop (j + 1)).all (rightC N) = T) := by show _ = _; rw [← e]; simp [rightC, hu, hx]
          clear e
          go_wp2_with fail
          refine C.mono ?_; rintro e w1 ⟨rfl, rfl⟩
          go_wp2
          go_round
          case rel => exact ⟨j + 1, by omega, by go_num, HE⟩
          case measure => simp [intOf]; omega
        · rw [hx] at C
          have HE : Hid (false = T) := by show _ = _; rw [← e]; simp [rightC, hu, hx]
          clear e
          go_wp2_with fail
          refine C.mono ?_; rintro e w1 ⟨rfl, rfl⟩
          go_wp2
          go_ret
          exact ⟨by rw [← HE.out]; rfl, HB.out⟩
      · have d4 : decide ((1000 : Int) < u.length) = true := decide_eq_true (by omega)
        have HE : Hid (false = T) := by show _ = _; rw [← e]; simp [rightC, hu]
        clear e C
        go_wp2
        go_ret
        exact ⟨by rw [← HE.out]; rfl, HB.out⟩
    · have e := HJ.out
      rw [List.drop_of_length_le (by omega)] at e
      have HE : Hid (true = T) := by show _ = _; simpa using e
      clear e HJ HT HP hr
      go_wp2
      go_ret
      exact ⟨by rw [← HE.out]; rfl, HB.out⟩
set_option maxHeartbeats 400000 in
theorem Right_out (A : Option Addr) (c : Nat) (N : Int) (n : Nat) (w : World) (hn : n ≤ maxLen) (h : N < 0 ∨ 100000 < N ∨ 20000 < n) :
    Calls Tryd.prog 36 #[.agg #[.int .i64 N, .slice A n c]] w (RetV w (.bool false)) := by
  unfold maxLen at hn
  have cs : (decide (N < 0) = true) ∨ (decide (N < 0) = false ∧ decide (100000 < N) = true) ∨ (decide (N < 0) = false ∧ decide (100000 < N) = false ∧ decide ((20000 : Int) < n) = true) := by
    simp only [decide_eq_true_eq, decide_eq_false_iff_not]; omega
  have HB := Lib.hid (bal (Below.refl w.heap.size w) (.cells #[.int .i64 N, .slice A n c] 24))
  clear h
  rcases cs with c1 | ⟨c1, c2⟩ | ⟨c1, c2, c3⟩
  all_goals
    go_enter Tryd.func36, Tryd.ntmps36
    go_wp2
    go_ret
    exact ⟨rfl, HB.out⟩
theorem Right_any (A : Option Addr) (c : Nat) (N : Int) (L : List (List Int)) (w : World) (h : RC w w.heap.size A L) (hn : L.length ≤ maxLen) :
    Calls Tryd.prog 36 #[.agg #[.int .i64 N, .slice A L.length c]] w (RetV w (.bool (rightF N L))) := by
  by_cases hr : 0 ≤ N ∧ N ≤ 100000 ∧ L.length ≤ 20000
  · have e : rightF N L = L.all (rightC N) := by simp [rightF, hr]
    rw [e]
    exact Right_in A c N L w h hr.1 hr.2.1 hr.2.2
  · have e : rightF N L = false := by
      unfold rightF
      have hh : (decide (0 ≤ N) && decide (N ≤ 100000) && decide (L.length ≤ 20000)) = false := by
        rw [Bool.eq_false_iff]; intro hh; simp at hh; omega
      rw [hh, Bool.false_and]
    rw [e]
    exact Right_out A c N L.length w hn (by omega)
set_option maxHeartbeats 800000 in
theorem Holds_any (A A' : Option Addr) (c c' : Nat) (N : Int) (L : List (List Int)) (m : List Bool) (w : World) (h : RC w w.heap.size A L) (h' : RB w w.heap.size A' m) (hn : L.length ≤ maxLen) (hm : m.length ≤ maxLen) :
    Calls Tryd.prog 14 #[.agg #[.int .i64 N, .slice A L.length c], .slice A' m.length c'] w (RetV w (.bool (hoT L m))) := by
  have hb := bal (Below.refl w.heap.size w) (.cells #[.int .i64 N, .slice A L.length c] 24)
  have hr := Lib.hid h
  have hr' := Lib.hid h'
  have HM := Lib.hid hm
  obtain ⟨T, hT⟩ : ∃ T, hoT L m = T := ⟨_, rfl⟩
  rw [hT]
  have HT : Hid (L.all (fun c => clT c m) = T) := hT
  unfold maxLen at hn hm
  clear hT h h'
  go_enter Tryd.func14, Tryd.ntmps14
  go_wp2
  go_loopw [10] (fun i wr => ∃ j : Nat, j ≤ L.length ∧ i = .int .i64 j ∧ Below w.heap.size w wr ∧ Hid ((L.drop j).all (fun c => clT c m) = T)) (fun i _ => L.length - (intOf i).toNat)
  case atStart => exact ⟨0, Nat.zero_le _, rfl, hb, HT⟩
  case round =>
    obtain ⟨j, hj, rfl, hB, HJ⟩ := hrel
    by_cases hlt : j < L.length
    · obtain ⟨a1, A1, c1, rfl, _, hc1, r1, m1⟩ := (hr.out.nx hB) j hlt
      have e := HJ.out
      rw [dropC L j hlt, List.all_cons] at e
      have C := Clause_any A1 A' c1 c' _ m wr r1 (hr'.out.nx hB) m1 HM.out
      generalize L.getD j [] = u at *
      have HB := Lib.hid hB
      clear HJ HT r1 hr hr' hb hB
      cases hx : clT u m
      · rw [hx] at C
        have HE : Hid (false = T) := by show _ = _; rw [← e]; simp [hx]
        clear e
        go_wp2_with fail
        refine C.mono ?_; rintro e w1 ⟨rfl, hb1⟩
        go_wp2
        go_ret
        exact ⟨by rw [← HE.out]; rfl, bnx HB.out hb1⟩
      · rw [hx] at C
        have HE : Hid ((L.drop (j + 1)).all (fun c => clT c m) = T) := by show _ = _; rw [← e]; simp [hx]
        clear e
        go_wp2_with fail
        refine C.mono ?_; rintro e w1 ⟨rfl, hb1⟩
        go_wp2
        go_roundw
        case rel => exact ⟨j + 1, by omega, by go_num, bnx HB.out hb1, HE⟩
        case measure => simp [intOf]; omega
    · have e := HJ.out
      rw [List.drop_of_length_le (by omega)] at e
      have HE : Hid (true = T) := by show _ = _; simpa using e
      clear e HJ HT hr hr'
      go_wp2
      go_ret
      exact ⟨by rw [← HE.out]; rfl, hB⟩
end Go.Proofs.YtahedhpffjgimaaDoor
/- Three functions of Go's library stand in this program as the library's shelf of contracts knows them: the tables of numbers, each fact by the kernel. No conditions. -/
namespace Go.Proofs
open Go.Shelf
def Tryd.lays169_ren : Go.Shelf.Ren := ⟨fun | 169 => 50 | n => n, fun | 70 => 84 | 9 => 9 | 0 => 0 | 72 => 86 | 37 => 35 | 127 => 122 | 3 => 3 | 5 => 5 | n => n, fun | n => n⟩
theorem Tryd.lays169 : Go.Proofs.Lays.n169 Tryd.prog Tryd.lays169_ren := {
  mixed := by kernel_rfl
  f169 := Tryd.func50.trans (congrArg some (by kernel_rfl))
  t0 := Tryd.underlying0
  a0 := Tryd.isAgg0
  z0 := Tryd.sizeOf0
  v0 := Tryd.zeroValue0
  t3 := Tryd.underlying3
  a3 := Tryd.isAgg3
  z3 := Tryd.sizeOf3
  v3 := Tryd.zeroValue3
  t9 := Tryd.underlying9
  a9 := Tryd.isAgg9
  z9 := Tryd.sizeOf9
  v9 := Tryd.zeroValue9
  t37 := Tryd.underlying35
  a37 := Tryd.isAgg35
  z37 := Tryd.sizeOf35
  v37 := Tryd.zeroValue35
  t70 := Tryd.underlying84
  a70 := Tryd.isAgg84
  z70 := Tryd.sizeOf84
  v70 := Tryd.zeroValue84
  t72 := Tryd.underlying86
  a72 := Tryd.isAgg86
  z72 := Tryd.sizeOf86
  v72 := Tryd.zeroValue86
  t127 := Tryd.underlying122
  a127 := Tryd.isAgg122
  z127 := Tryd.sizeOf122
  v127 := Tryd.zeroValue122 }
theorem Tryd.Builder_Extra_169 : Builder.Extra Tryd.prog Tryd.lays169_ren := {
  sizeBuilder := by kernel_rfl
  liesBuilder := by kernel_rfl
  t5 := Tryd.underlying5
  a5 := Tryd.isAgg5
  z5 := Tryd.sizeOf5
  v5 := Tryd.zeroValue5
  infoByte := by kernel_rfl
  cellsByte := by kernel_rfl
  sizeByte := by kernel_rfl
  neB5 := by decide }
open Go.RowKit in
theorem Tryd.Builder_String_any (B b : Nat) (l : List UInt8) (w : World) (h : Lib.IsBuilder 86 5 B b (Lib.byteCells l) w) (hBw : B ≤ w.heap.size) :
    Calls Tryd.prog 50 #[.pointer (some ⟨b, 0, none⟩)] w fun e w' => e = .returned (.string ⟨l.toArray⟩) ∧ Below B w w' := Any.Builder_String_any Tryd.lays169 Tryd.Builder_Extra_169 B b l w h hBw
def Tryd.laysM171_ren : Go.Shelf.Ren := ⟨fun | 171 => 56 | 243 => 81 | 246 => 91 | 283 => 105 | 284 => 106 | 285 => 107 | 286 => 108 | 129 => 104 | 317 => 115 | 318 => 116 | 319 => 117 | 320 => 118 | 337 => 120 | 338 => 121 | n => n, fun | 3 => 3 | 9 => 9 | 2 => 2 | 4 => 4 | 171 => 155 | 0 => 0 | 53 => 154 | 37 => 35 | 5 => 5 | 173 => 157 | 212 => 167 | 51 => 152 | 20 => 20 | 213 => 168 | 46 => 126 | 232 => 171 | 233 => 172 | n => n, fun | 17 => 0 | 18 => 1 | 19 => 2 | n => n⟩
theorem Tryd.laysM171 : Go.Proofs.LaysM.n171 Tryd.prog Tryd.laysM171_ren := {
  mixed := by kernel_rfl
  f129 := Tryd.func104.trans (congrArg some (by kernel_rfl))
  f171 := Tryd.func56.trans (congrArg some (by kernel_rfl))
  f243 := Tryd.func81.trans (congrArg some (by kernel_rfl))
  f246 := Tryd.func91.trans (congrArg some (by kernel_rfl))
  f283 := Tryd.func105.trans (congrArg some (by kernel_rfl))
  f284 := Tryd.func106.trans (congrArg some (by kernel_rfl))
  f285 := Tryd.func107.trans (congrArg some (by kernel_rfl))
  f286 := Tryd.func108.trans (congrArg some (by kernel_rfl))
  f317 := Tryd.func115.trans (congrArg some (by kernel_rfl))
  f318 := Tryd.func116.trans (congrArg some (by kernel_rfl))
  f319 := Tryd.func117.trans (congrArg some (by kernel_rfl))
  f320 := Tryd.func118.trans (congrArg some (by kernel_rfl))
  f337 := Tryd.func120.trans (congrArg some (by kernel_rfl))
  f338 := Tryd.func121.trans (congrArg some (by kernel_rfl))
  t0 := Tryd.underlying0
  a0 := Tryd.isAgg0
  z0 := Tryd.sizeOf0
  v0 := Tryd.zeroValue0
  t2 := Tryd.underlying2
  a2 := Tryd.isAgg2
  z2 := Tryd.sizeOf2
  v2 := Tryd.zeroValue2
  t3 := Tryd.underlying3
  a3 := Tryd.isAgg3
  z3 := Tryd.sizeOf3
  v3 := Tryd.zeroValue3
  t4 := Tryd.underlying4
  a4 := Tryd.isAgg4
  z4 := Tryd.sizeOf4
  v4 := Tryd.zeroValue4
  t5 := Tryd.underlying5
  a5 := Tryd.isAgg5
  z5 := Tryd.sizeOf5
  v5 := Tryd.zeroValue5
  t9 := Tryd.underlying9
  a9 := Tryd.isAgg9
  z9 := Tryd.sizeOf9
  v9 := Tryd.zeroValue9
  t20 := Tryd.underlying20
  a20 := Tryd.isAgg20
  z20 := Tryd.sizeOf20
  v20 := Tryd.zeroValue20
  t37 := Tryd.underlying35
  a37 := Tryd.isAgg35
  z37 := Tryd.sizeOf35
  v37 := Tryd.zeroValue35
  t46 := Tryd.underlying126
  a46 := Tryd.isAgg126
  z46 := Tryd.sizeOf126
  v46 := Tryd.zeroValue126
  t51 := Tryd.underlying152
  a51 := Tryd.isAgg152
  z51 := Tryd.sizeOf152
  v51 := Tryd.zeroValue152
  t53 := Tryd.underlying154
  a53 := Tryd.isAgg154
  z53 := Tryd.sizeOf154
  v53 := Tryd.zeroValue154
  t171 := Tryd.underlying155
  a171 := Tryd.isAgg155
  z171 := Tryd.sizeOf155
  v171 := Tryd.zeroValue155
  t173 := Tryd.underlying157
  a173 := Tryd.isAgg157
  z173 := Tryd.sizeOf157
  v173 := Tryd.zeroValue157
  t212 := Tryd.underlying167
  a212 := Tryd.isAgg167
  z212 := Tryd.sizeOf167
  v212 := Tryd.zeroValue167
  t213 := Tryd.underlying168
  a213 := Tryd.isAgg168
  z213 := Tryd.sizeOf168
  t232 := Tryd.underlying171
  a232 := Tryd.isAgg171
  z232 := Tryd.sizeOf171
  v232 := Tryd.zeroValue171
  t233 := Tryd.underlying172
  a233 := Tryd.isAgg172
  z233 := Tryd.sizeOf172
  v233 := Tryd.zeroValue172
  g17 := by kernel_rfl
  g18 := by kernel_rfl
  g19 := by kernel_rfl
  i0 := by kernel_rfl
  i2 := by kernel_rfl
  i3 := by kernel_rfl
  i4 := by kernel_rfl
  i5 := by kernel_rfl
  i9 := by kernel_rfl
  i20 := by kernel_rfl
  i37 := by kernel_rfl
  i46 := by kernel_rfl
  i51 := by kernel_rfl
  i53 := by kernel_rfl
  i171 := by kernel_rfl
  i173 := by kernel_rfl
  i212 := by kernel_rfl
  i232 := by kernel_rfl
  i233 := by kernel_rfl
  m17 := by kernel_rfl
  m18 := by kernel_rfl
  m19 := by kernel_rfl }
open Go.RowKit Go.Sort Go.Lib in
theorem Tryd.strconv_Itoa (n : Int) (h0 : -9223372036854775808 ≤ n) (h1 : n ≤ 9223372036854775807) (w : World) (htab : Lib.TabIs Tryd.prog w "internal/strconv.uint64pow10" .u64 Lib.pow10Tab) :
    Calls Tryd.prog 56 #[.int .i64 n] w fun e w' => e = .returned (.string ⟨(Lib.itoa n).toArray⟩) ∧ ∃ k os, w' = grow (w.drewN k) os := Any.strconv_Itoa Tryd.laysM171 n h0 h1 w htab
end Go.Proofs
