/-
  Below, of both sides; rows that are the same; two values as three.
  One function of Go's library stands in this program as the library's shelf of contracts knows it (strings.Builder's String): the table of numbers, each fact by the kernel. No conditions.
  strings.Builder over the translated program; a row's text, of both sides.
  A row's text, of both sides.
-/
import Derived.Test.YtekopdfnblfldaaDoorProg
import Derived.WalkKit
import Derived.WalkSpells
import Derived.WalkLawsBesides
import Derived.Lib.Hide
import Derived.BigQuiet
import Derived.Deep.QuietTactic
import Derived.Deep.RegionWith
import Derived.Deep.RegionHeld3
import Derived.Test.YtekopdfnblfldaaDoorQ02
import Derived.Shelf.Strings.Builder1
import Derived.Test.YtekopdfnblfldaaDoorQ03
import Derived.Test.YtekopdfnblfldaaDoorQ05
import Derived.Laws.Externs
import Derived.Lib.Builder
import Derived.Lib.AppendStr
import Derived.Lib.UnsafeStr
import Derived.Lib.Walk
import Derived.Lib.Slices
import Derived.WalkSmall
set_option linter.unusedVariables false
/- Below, of both sides; rows that are the same; two values as three. -/
namespace Go.Proofs.YtekopdfnblfldaaDoor
open Go.RowKit
/-- Is a value below another one? -/
def bel1 (x y : Int) : Bool := (x == y) || (y == 2)
def belowT (l m : List Int) : Bool := decide (l.length = m.length) && (l.zip m).all (fun p => bel1 p.1 p.2)
set_option maxHeartbeats 800000 in
theorem bel1_any (x y : Int) (w : World) : Calls Tryd.prog 37 #[.int .u8 x, .int .u8 y] w (RetS w (.bool (bel1 x y))) := by
  unfold bel1
  by_cases h0 : x = y
  · subst h0
    have d0 : (x == x) = true := by simp
    rw [d0]
    go_enter Tryd.func37, Tryd.ntmps37
    go_wp2
    go_ret
    exact ⟨rfl, rfl⟩
  · have d0 : (x == y) = false := by simpa using h0
    rw [d0]
    go_enter Tryd.func37, Tryd.ntmps37
    go_wp2
    go_ret
    exact ⟨by simp, rfl⟩
theorem belowT_cons (l m : List Int) (j : Nat) (hl : j < l.length) (hm : j < m.length) : ((l.drop j).zip (m.drop j)).all (fun p => bel1 p.1 p.2) = (bel1 (l.getD j 0) (m.getD j 0) && ((l.drop (j + 1)).zip (m.drop (j + 1))).all (fun p => bel1 p.1 p.2)) := by
  rw [dropT l j hl, dropT m j hm, List.zip_cons_cons, List.all_cons]
set_option maxHeartbeats 2000000 in
theorem Below_len (A A' : Option Addr) (c c' : Nat) (l m : List Int) (w : World) (h : ¬ l.length = m.length) :
    Calls Tryd.prog 36 #[.slice A l.length c, .slice A' m.length c', .func (.func 37) #[] #[]] w (RetS w (.bool false)) := by
  have d0 : ((l.length : Int) != (m.length : Int)) = true := by simp; omega
  clear h
  go_enter Tryd.func36, Tryd.ntmps36
  go_wp2
  go_ret
  exact ⟨rfl, rfl⟩
set_option maxHeartbeats 2000000 in
theorem equalT_any (A A' : Option Addr) (c c' : Nat) (l m : List Int) (w : World) (h : RT w w.heap.size A l) (h' : RT w w.heap.size A' m) (hn : l.length ≤ maxLen) (hlen : l.length = m.length) :
    Calls Tryd.prog 36 #[.slice A l.length c, .slice A' m.length c', .func (.func 37) #[] #[]] w (RetS w (.bool ((l.zip m).all (fun p => bel1 p.1 p.2)))) := by
  unfold maxLen at hn
  obtain ⟨T, hT⟩ : ∃ T, (l.zip m).all (fun p => bel1 p.1 p.2) = T := ⟨_, rfl⟩
  rw [hT]
  have HT : Hid (((l.drop 0).zip (m.drop 0)).all (fun p => bel1 p.1 p.2) = T) := by show _ = _; rw [List.drop_zero, List.drop_zero, hT]
  have H := Lib.hid h
  have H' := Lib.hid h'
  have HL := Lib.hid hlen
  have d0 : ((l.length : Int) != (m.length : Int)) = false := by simp; omega
  have C1 : Hid (∀ x y, Calls Tryd.prog 37 #[.int .u8 x, .int .u8 y] w (RetS w (.bool (bel1 x y)))) := Lib.hid fun x y => bel1_any x y w
  clear hT h h' hlen
  go_enter Tryd.func36, Tryd.ntmps36
  go_wp2
  go_loopg [17] l.length (fun g s wr => ∃ j : Nat, j + g = l.length ∧ s = .int .i64 j ∧ w = wr ∧ Hid (((l.drop j).zip (m.drop j)).all (fun p => bel1 p.1 p.2) = T))
  case atStart => exact ⟨0, by omega, rfl, rfl, HT⟩
  case round =>
    obtain ⟨j, hj, rfl, rfl, HJ⟩ := hrel
    cases gk with
    | zero =>
      have q1 : ¬ ((j : Int) < l.length) := by omega
      have q2 : ¬ (j < l.length) := by omega
      have HE : Hid (true = T) := by show _ = _; rw [← HJ.out, List.drop_of_length_le (by omega)]; rfl
      clear HJ HT
      go_wp2
      go_ret
      exact ⟨by rw [← HE.out]; rfl, rfl⟩
    | succ g =>
      have hjl : j < l.length := by omega
      have hjl' : (j : Int) < l.length := by omega
      have hjm : j < m.length := by have := HL.out; omega
      have hjm' : (j : Int) < m.length := by omega
      obtain ⟨ad, rfl, hab, hc⟩ := H.out j hjl
      obtain ⟨ad', rfl, hab', hc'⟩ := H'.out j hjm
      have e := HJ.out
      rw [belowT_cons l m j hjl hjm] at e
      have c1 := C1.out (l.getD j 0) (m.getD j 0)
      generalize l.getD j 0 = x at *
      generalize m.getD j 0 = y at *
      generalize bel1 x y = bb at *
      clear HJ HT
      cases bb
      · have HE : Hid (false = T) := by show _ = _; rw [← e]; rfl
        clear e
        go_wp2_with fail
        refine c1.mono ?_; rintro e w' ⟨rfl, rfl⟩
        clear c1
        go_wp2
        go_ret
        exact ⟨by rw [← HE.out]; rfl, rfl⟩
      · have HE : Hid (((l.drop (j + 1)).zip (m.drop (j + 1))).all (fun p => bel1 p.1 p.2) = T) := by show _ = _; rw [← e]; rfl
        clear e
        go_wp2_with fail
        refine c1.mono ?_; rintro e w' ⟨rfl, rfl⟩
        clear c1
        go_wp2
        go_roundg g
        case measure => omega
        case rel => exact ⟨j + 1, by omega, by go_num, rfl, HE⟩
set_option maxHeartbeats 1000000 in
theorem Below_any (A A' : Option Addr) (c c' : Nat) (l m : List Int) (w : World) (h : RT w w.heap.size A l) (h' : RT w w.heap.size A' m) (hn : l.length ≤ maxLen) :
    Calls Tryd.prog 17 #[.slice A l.length c, .slice A' m.length c'] w (RetS w (.bool (belowT l m))) := by
  have C : Calls Tryd.prog 36 #[.slice A l.length c, .slice A' m.length c', .func (.func 37) #[] #[]] w (RetS w (.bool (belowT l m))) := by
    unfold belowT
    by_cases hl : l.length = m.length
    · rw [decide_eq_true hl, Bool.true_and]; exact equalT_any A A' c c' l m w h h' hn hl
    · rw [decide_eq_false hl, Bool.false_and]; exact Below_len A A' c c' l m w hl
  generalize belowT l m = T at *
  clear h h'
  go_enter Tryd.func17, Tryd.ntmps17
  go_wp2_with fail
  refine C.mono ?_; rintro e w' ⟨rfl, rfl⟩
  clear C
  go_wp2
  go_ret
  exact ⟨rfl, rfl⟩
set_option maxHeartbeats 2000000 in
theorem refBelow_q (A A' : Option Addr) (c c' : Nat) (l m : List Int) (w : World) (h : RT w w.heap.size A l) (h' : RT w w.heap.size A' m) (hn : l.length ≤ maxLen) :
    Calls Tryd.prog 18 #[.slice A l.length c, .slice A' m.length c'] w fun e w' => e = .returned (.bool (belowT l m)) ∧ ∃ n, w' = w.drewN n := by
  unfold maxLen at hn
  unfold belowT
  by_cases hl : ¬ l.length = m.length
  · have d0 : ((l.length : Int) != (m.length : Int)) = true := by simp; omega
    rw [decide_eq_false hl, Bool.false_and]
    clear h h' hl
    go_enter Tryd.func18, Tryd.ntmps18
    go_wp2
    go_ret
    exact ⟨rfl, 0, rfl⟩
  replace hl := Classical.not_not.1 hl
  have d0 : ((l.length : Int) != (m.length : Int)) = false := by simp; omega
  rw [decide_eq_true hl, Bool.true_and]
  obtain ⟨T, hT⟩ : ∃ T, (l.zip m).all (fun p => bel1 p.1 p.2) = T := ⟨_, rfl⟩
  rw [hT]
  have HT : Hid (((l.drop 0).zip (m.drop 0)).all (fun p => bel1 p.1 p.2) = T) := by show _ = _; rw [List.drop_zero, List.drop_zero, hT]
  have H := Lib.hid h
  have H' := Lib.hid h'
  have HL := Lib.hid hl
  clear hT h h' hl
  go_enter Tryd.func18, Tryd.ntmps18
  go_wp2
  go_loopg [5] l.length (fun g s wr => ∃ j : Nat, j + g = l.length ∧ s = .int .i64 j ∧ (∃ n, wr = w.drewN n) ∧ Hid (((l.drop j).zip (m.drop j)).all (fun p => bel1 p.1 p.2) = T))
  case atStart => exact ⟨0, by omega, rfl, ⟨0, rfl⟩, HT⟩
  case round =>
    obtain ⟨j, hj, rfl, ⟨n, rfl⟩, HJ⟩ := hrel
    cases gk with
    | zero =>
      have q1 : ¬ ((j : Int) < l.length) := by omega
      have q2 : ¬ (j < l.length) := by omega
      have HE : Hid (true = T) := by show _ = _; rw [← HJ.out, List.drop_of_length_le (by omega)]; rfl
      clear HJ HT
      go_wp2
      go_ret
      exact ⟨by rw [← HE.out]; rfl, n, rfl⟩
    | succ g =>
      have hjl : j < l.length := by omega
      have hjl' : (j : Int) < l.length := by omega
      have hjm : j < m.length := by have := HL.out; omega
      have hjm' : (j : Int) < m.length := by omega
      obtain ⟨ad, rfl, hab, hc⟩ := H.out j hjl
      obtain ⟨ad', rfl, hab', hc'⟩ := H'.out j hjm
      have e := HJ.out
      rw [belowT_cons l m j hjl hjm] at e
      unfold bel1 at e
      generalize l.getD j 0 = x at *
      generalize m.getD j 0 = y at *
      clear HJ HT
      by_cases hxy : x = y
      · subst hxy
        have d1 : (x == x) = true := by simp
        have d2 : (x != x) = false := by simp
        rw [d1, Bool.true_or, Bool.true_and] at e
        have HE := Lib.hid e
        clear e
        go_wp2
        go_quiet (fail)
        go_wp2
        go_roundg g
        case measure => omega
        case rel => exact ⟨j + 1, by omega, by go_num, ⟨_, rfl⟩, HE⟩
      · have d1 : (x == y) = false := by simpa using hxy
        have d2 : (x != y) = true := by simpa using hxy
        rw [d1, Bool.false_or] at e
        by_cases hy : y = 2
        · subst hy
          have HE : Hid (((l.drop (j + 1)).zip (m.drop (j + 1))).all (fun p => bel1 p.1 p.2) = T) := by show _ = _; rw [← e, show ((2 : Int) == 2) = true from rfl, Bool.true_and]; rfl
          clear e
          go_wp2
          go_quiet (fail)
          go_wp2
          go_roundg g
          case measure => omega
          case rel => exact ⟨j + 1, by omega, by go_num, ⟨_, rfl⟩, HE⟩
        · have d3 : (y == 2) = false := by simpa using hy
          have d4 : (y != 2) = true := by simpa using hy
          rw [d3] at e
          have HE : Hid (false = T) := by show _ = _; rw [← e]; rfl
          clear e
          go_wp2
          go_quiet (fail)
          go_wp2
          go_ret
          exact ⟨by rw [← HE.out]; rfl, _, by rw [World.drewN_drewN]⟩
set_option maxHeartbeats 1000000 in
theorem refBelow_any (A A' : Option Addr) (c c' : Nat) (l m : List Int) (w : World) (h : RT w w.heap.size A l) (h' : RT w w.heap.size A' m) (hn : l.length ≤ maxLen) :
    Calls Tryd.prog 18 #[.slice A l.length c, .slice A' m.length c'] w (RetV w (.bool (belowT l m))) :=
  (refBelow_q A A' c c' l m w h h' hn).mono fun e w' ⟨he, n, hw⟩ => ⟨he, by rw [hw]; exact drw n⟩
theorem sameT_cons (l m : List Int) (j : Nat) (hl : j < l.length) (hm : j < m.length) : (l.drop j == m.drop j) = ((l.getD j 0 == m.getD j 0) && (l.drop (j + 1) == m.drop (j + 1))) := by
  rw [dropT l j hl, dropT m j hm]
  rfl
set_option maxHeartbeats 2000000 in
theorem Same_q (A A' : Option Addr) (c c' : Nat) (l m : List Int) (w : World) (h : RT w w.heap.size A l) (h' : RT w w.heap.size A' m) (hn : l.length ≤ maxLen) :
    Calls Tryd.prog 26 #[.slice A l.length c, .slice A' m.length c'] w fun e w' => e = .returned (.bool (l == m)) ∧ ∃ n, w' = w.drewN n := by
  unfold maxLen at hn
  by_cases hl : ¬ l.length = m.length
  · have d0 : ((l.length : Int) != (m.length : Int)) = true := by simp; omega
    have e0 : (l == m) = false := by
      rw [beq_eq_false_iff_ne]; intro e; exact hl (by rw [e])
    rw [e0]
    clear h h' hl e0
    go_enter Tryd.func26, Tryd.ntmps26
    go_wp2
    go_ret
    exact ⟨rfl, 0, rfl⟩
  replace hl := Classical.not_not.1 hl
  have d0 : ((l.length : Int) != (m.length : Int)) = false := by simp; omega
  obtain ⟨T, hT⟩ : ∃ T, (l == m) = T := ⟨_, rfl⟩
  rw [hT]
  have HT : Hid ((l.drop 0 == m.drop 0) = T) := by show _ = _; rw [List.drop_zero, List.drop_zero, hT]
  have H := Lib.hid h
  have H' := Lib.hid h'
  have HL := Lib.hid hl
  clear hT h h' hl
  go_enter Tryd.func26, Tryd.ntmps26
  go_wp2
  go_loopg [5] l.length (fun g s wr => ∃ j : Nat, j + g = l.length ∧ s = .int .i64 j ∧ (∃ n, wr = w.drewN n) ∧ Hid ((l.drop j == m.drop j) = T))
  case atStart => exact ⟨0, by omega, rfl, ⟨0, rfl⟩, HT⟩
  case round =>
    obtain ⟨j, hj, rfl, ⟨n, rfl⟩, HJ⟩ := hrel
    cases gk with
    | zero =>
      have q1 : ¬ ((j : Int) < l.length) := by omega
      have q2 : ¬ (j < l.length) := by omega
      have HE : Hid (true = T) := by show _ = _; rw [← HJ.out, List.drop_of_length_le (by omega), List.drop_of_length_le (by have := HL.out; omega)]; rfl
      clear HJ HT
      go_wp2
      go_ret
      exact ⟨by rw [← HE.out]; rfl, n, rfl⟩
    | succ g =>
      have hjl : j < l.length := by omega
      have hjl' : (j : Int) < l.length := by omega
      have hjm : j < m.length := by have := HL.out; omega
      have hjm' : (j : Int) < m.length := by omega
      obtain ⟨ad, rfl, hab, hc⟩ := H.out j hjl
      obtain ⟨ad', rfl, hab', hc'⟩ := H'.out j hjm
      have e := HJ.out
      rw [sameT_cons l m j hjl hjm] at e
      generalize l.getD j 0 = x at *
      generalize m.getD j 0 = y at *
      clear HJ HT
      by_cases hxy : x = y
      · subst hxy
        have d1 : (x == x) = true := by simp
        have d2 : (x != x) = false := by simp
        rw [d1, Bool.true_and] at e
        have HE := Lib.hid e
        clear e
        go_wp2
        go_quiet (fail)
        go_wp2
        go_roundg g
        case measure => omega
        case rel => exact ⟨j + 1, by omega, by go_num, ⟨_, rfl⟩, HE⟩
      · have d1 : (x == y) = false := by simpa using hxy
        have d2 : (x != y) = true := by simpa using hxy
        rw [d1] at e
        have HE : Hid (false = T) := by show _ = _; rw [← e]; rfl
        clear e
        go_wp2
        go_quiet (fail)
        go_wp2
        go_ret
        exact ⟨by rw [← HE.out]; rfl, _, by rw [World.drewN_drewN]⟩
theorem Same_any (A A' : Option Addr) (c c' : Nat) (l m : List Int) (w : World) (h : RT w w.heap.size A l) (h' : RT w w.heap.size A' m) (hn : l.length ≤ maxLen) :
    Calls Tryd.prog 26 #[.slice A l.length c, .slice A' m.length c'] w (RetV w (.bool (l == m))) :=
  (Same_q A A' c c' l m w h h' hn).mono fun e w' ⟨he, n, hw⟩ => ⟨he, by rw [hw]; exact drw n⟩
/-- Two values as three. -/
def of3 (l : List Bool) : List Int := l.map (fun b => if b then 1 else 0)
theorem of3_len (l : List Bool) : (of3 l).length = l.length := by simp [of3]
theorem of3_in (l : List Bool) : In3 (of3 l) := by
  intro x hx
  obtain ⟨b, _, rfl⟩ := List.mem_map.1 hx
  cases b <;> simp
theorem of3_take (l : List Bool) (j : Nat) (h : j < l.length) : of3 (l.take (j + 1)) = of3 (l.take j) ++ [if l.getD j false then 1 else 0] := by
  have e : l[j]? = some (l.getD j false) := by simp [List.getD_eq_getElem?_getD, h]
  unfold of3
  rw [List.take_add_one, e, List.map_append]
  rfl
set_option maxHeartbeats 2000000 in
theorem Of_any (A : Option Addr) (c : Nat) (l : List Bool) (w : World) (h : RB w w.heap.size A l) (hn : l.length ≤ 1000000000) :
    Calls Tryd.prog 29 #[.slice A l.length c] w (fun e w' => ∃ v, e = .returned v ∧ OwnT w' w.heap.size v (of3 l) ∧ Below w.heap.size w w') := by
  obtain ⟨T, hT⟩ : ∃ T, of3 l = T := ⟨_, rfl⟩
  rw [hT]
  have HT := Lib.hid hT
  have H := Lib.hid h
  clear hT h
  go_enter Tryd.func29, Tryd.ntmps29
  go_wp2
  go_loopg [3, 4] l.length (fun g s3 s4 wr => ∃ j : Nat, j + g = l.length ∧ s4 = .int .i64 j ∧ OwnT wr w.heap.size s3 (of3 (l.take j)) ∧ Below w.heap.size w wr)
  case atStart => exact ⟨0, by omega, rfl, OwnT.nil _ _, Below.refl _ _⟩
  case round =>
    obtain ⟨j, hj, rfl, hrow, hbel⟩ := hrel
    cases gk with
    | zero =>
      have q1 : ¬ ((j : Int) < l.length) := by omega
      have q2 : ¬ (j < l.length) := by omega
      rw [show l.take j = l from List.take_of_length_le (by omega), HT.out] at hrow
      have HR := Lib.hid hrow
      have HB := Lib.hid hbel
      clear hrow hbel
      go_wp2
      go_ret
      exact ⟨_, rfl, HR.out, HB.out⟩
    | succ g =>
      have hjl : j < l.length := by omega
      have hjl' : (j : Int) < l.length := by omega
      obtain ⟨ad, rfl, hab, hc⟩ := H.out j hjl
      have hc' := (hbel.cell (p := ad.add j) (by rw [block_add]; exact hab)).trans hc
      have hnext := of3_take l j hjl
      have hlen : (of3 (l.take j)).length ≤ 3000000000 := by rw [of3_len, List.length_take]; omega
      generalize of3 (l.take j) = M at *
      generalize l.getD j false = b at *
      have HN := Lib.hid hnext
      clear hc hnext
      cases b
      · simp only [Bool.false_eq_true, if_false] at HN
        go_wp2_with (first | (at_builtin; refine wpT1 (z := w) rfl (.tmp 18) (.tmp 19) rfl _ M rfl hrow 0 rfl hbel hlen ?_) | fail)
        intro v1 w1 ho1 hb1
        have HO := Lib.hid ho1
        have HB := Lib.hid hb1
        clear ho1 hb1 hrow hbel
        go_wp2
        go_roundg g
        case measure => omega
        case rel => exact ⟨j + 1, by omega, by go_num, by rw [HN.out]; exact HO.out, HB.out⟩
      · simp only [if_true] at HN
        go_wp2_with (first | (at_builtin; refine wpT1 (z := w) rfl (.tmp 15) (.tmp 16) rfl _ M rfl hrow 1 rfl hbel hlen ?_) | fail)
        intro v1 w1 ho1 hb1
        have HO := Lib.hid ho1
        have HB := Lib.hid hb1
        clear ho1 hb1 hrow hbel
        go_wp2
        go_roundg g
        case measure => omega
        case rel => exact ⟨j + 1, by omega, by go_num, by rw [HN.out]; exact HO.out, HB.out⟩
end Go.Proofs.YtekopdfnblfldaaDoor
/- One function of Go's library stands in this program as the library's shelf of contracts knows it (strings.Builder's String): the table of numbers, each fact by the kernel. No conditions. -/
namespace Go.Proofs
open Go.Shelf
def Tryd.lays169_ren : Go.Shelf.Ren := ⟨fun | 169 => 39 | n => n, fun | 70 => 75 | 9 => 9 | 0 => 0 | 72 => 78 | 37 => 76 | 127 => 99 | 3 => 3 | 5 => 5 | n => n, fun | n => n⟩
theorem Tryd.lays169 : Go.Proofs.Lays.n169 Tryd.prog Tryd.lays169_ren := {
  mixed := by kernel_rfl
  f169 := Tryd.func39.trans (congrArg some (by kernel_rfl))
  t0 := Tryd.underlying0
  a0 := Tryd.isAgg0
  z0 := Tryd.sizeOf0
  v0 := Tryd.zeroValue0
  t3 := Tryd.underlying3
  a3 := Tryd.isAgg3
  z3 := Tryd.sizeOf3
  v3 := Tryd.zeroValue3
  t9 := Tryd.underlying9
  a9 := Tryd.isAgg9
  z9 := Tryd.sizeOf9
  v9 := Tryd.zeroValue9
  t37 := Tryd.underlying76
  a37 := Tryd.isAgg76
  z37 := Tryd.sizeOf76
  v37 := Tryd.zeroValue76
  t70 := Tryd.underlying75
  a70 := Tryd.isAgg75
  z70 := Tryd.sizeOf75
  v70 := Tryd.zeroValue75
  t72 := Tryd.underlying78
  a72 := Tryd.isAgg78
  z72 := Tryd.sizeOf78
  v72 := Tryd.zeroValue78
  t127 := Tryd.underlying99
  a127 := Tryd.isAgg99
  z127 := Tryd.sizeOf99
  v127 := Tryd.zeroValue99 }
theorem Tryd.Builder_Extra_169 : Builder.Extra Tryd.prog Tryd.lays169_ren := {
  sizeBuilder := by kernel_rfl
  liesBuilder := by kernel_rfl
  t5 := Tryd.underlying5
  a5 := Tryd.isAgg5
  z5 := Tryd.sizeOf5
  v5 := Tryd.zeroValue5
  infoByte := by kernel_rfl
  cellsByte := by kernel_rfl
  sizeByte := by kernel_rfl
  neB5 := by decide }
open Go.RowKit in
theorem Tryd.Builder_String_any (B b : Nat) (l : List UInt8) (w : World) (h : Lib.IsBuilder 78 5 B b (Lib.byteCells l) w) (hBw : B ≤ w.heap.size) :
    Calls Tryd.prog 39 #[.pointer (some ⟨b, 0, none⟩)] w fun e w' => e = .returned (.string ⟨l.toArray⟩) ∧ Below B w w' := Any.Builder_String_any Tryd.lays169 Tryd.Builder_Extra_169 B b l w h hBw
end Go.Proofs
/- strings.Builder over the translated program; a row's text, of both sides. -/
namespace Go.Proofs.YtekopdfnblfldaaDoor
open Go.RowKit
set_option maxHeartbeats 1000000 in
set_option maxRecDepth 100000 in
theorem copyCheck_used (b : Nat) (w : World) (h0 : w.cell? ⟨b, 0, none⟩ = some (.pointer (some ⟨b, 0, none⟩))) :
    Calls Tryd.prog 50 #[.pointer (some ⟨b, 0, none⟩)] w (RetS w (.tuple #[])) := by
  obtain ⟨j, hj, hjs⟩ := Option.map_eq_some_iff.1 Tryd.Builder_Extra_169.sizeBuilder
  go_enter Tryd.func50, Tryd.ntmps50
  go_wp2
  rw [Lib.run_neq_ptr_same w _ Tryd.underlying75 hj]
  go_wp2
  go_end0
  exact ⟨rfl, rfl⟩
set_option maxHeartbeats 1000000 in
set_option maxRecDepth 100000 in
theorem copyCheck_fresh (b : Nat) (w : World) (h0 : w.cell? ⟨b, 0, none⟩ = some (.pointer none)) (hsh : w.shape? b = some (78, 2)) (hfz : w.frozen? ⟨b, 0, none⟩ = false) :
    Calls Tryd.prog 50 #[.pointer (some ⟨b, 0, none⟩)] w (RetS (w.setCell ⟨b, 0, none⟩ (.pointer (some ⟨b, 0, none⟩))) (.tuple #[])) := by
  obtain ⟨j, hj, hjs⟩ := Option.map_eq_some_iff.1 Tryd.Builder_Extra_169.sizeBuilder
  go_enter Tryd.func50, Tryd.ntmps50
  go_wp2
  rw [Lib.run_to_unsafe w ⟨b, 0, none⟩ Tryd.underlying75 Tryd.underlying104 hj (by rw [hjs]; decide) hsh (Nat.zero_lt_succ 1)]
  simp only [Result.andThen]
  rw [Oper.upon_value]
  go_wp2
  rw [run_callFunc_extern Tryd.func58 (by kernel_rfl) (by kernel_rfl) (by kernel_rfl) (e := Extern.AbiNoEscape.same) (by kernel_rfl)]
  rw [Lib.run_noEscape]
  simp only [Result.andThen]
  rw [Oper.upon_value]
  go_wp2
  rw [Lib.run_from_unsafe w ⟨b, 0, none⟩ Tryd.underlying104 Tryd.underlying75 hj hsh Tryd.Builder_Extra_169.liesBuilder]
  simp only [Result.andThen]
  rw [Oper.upon_value]
  go_wp2
  go_end0
  exact ⟨rfl, rfl⟩
/-- A builder at b, of the blocks from B on, holds the bytes l. -/
structure Bd (w : World) (B b : Nat) (l : List UInt8) : Prop where
  is : Lib.IsBuilder 78 5 B b (Lib.byteCells l) w
  sz : B ≤ w.heap.size
theorem BAt.nx {w w' : World} {B b : Nat} {p : Value} {bs : List Value} (h : Lib.BuilderAt 78 5 B b p bs w) (hb : Below w.heap.size w w') : Lib.BuilderAt 78 5 B b p bs w' := by
  obtain ⟨h1, v, h2, h3, h4⟩ := h
  have hlt : b < w.heap.size := by
    rcases Nat.lt_or_ge b w.heap.size with h' | h'
    · exact h'
    · simp [Array.getElem?_eq_none h'] at h2
  refine ⟨h1, v, (hb.block b hlt).trans h2, World.ownsRow.kept h3 (row := none) ⟨hb.os, hb.tape, hb.output, hb.size, fun k hk _ => hb.block k hk⟩ ?_, h4⟩
  cases hv : v.ownBlock with
  | none => exact .inl rfl
  | some k => exact .inr (by simp)
theorem Bd.nx {w w' : World} {B b : Nat} {l : List UInt8} (h : Bd w B b l) (hb : Below w.heap.size w w') : Bd w' B b l :=
  ⟨h.is.elim (fun x => .inl (BAt.nx x hb)) (fun x => .inr (BAt.nx x hb)), by have := h.sz; have := hb.size; omega⟩
theorem Bd.new (w : World) : Bd (w.alloc (.cells #[.pointer none, .slice none 0 0] 78)) w.heap.size w.heap.size [] := by
  refine ⟨.inl ⟨Nat.le_refl _, _, (MapKept.heap_alloc w (.cells #[.pointer none, .slice none 0 0] 78)).1, World.ownsRow_nil _ _ _ _, by simp [Value.ownBlock]⟩, by simp⟩
theorem copyCheck_any (B b : Nat) (bs : List Value) (w : World) (h : Lib.IsBuilder 78 5 B b bs w) :
    Calls Tryd.prog 50 #[.pointer (some ⟨b, 0, none⟩)] w fun e w' => e = .returned (.tuple #[]) ∧ Lib.BuilderAt 78 5 B b (.pointer (some ⟨b, 0, none⟩)) bs w' ∧ Below B w w' := by
  rcases h with h | h
  · refine (copyCheck_fresh b w h.cell0 h.shape h.frozen0).mono ?_
    rintro e w' ⟨rfl, rfl⟩
    exact ⟨rfl, h.used _, (Below.refl B w).setCell (p := ⟨b, 0, none⟩) h.1 _⟩
  · refine (copyCheck_used b w h.cell0).mono ?_
    rintro e w' ⟨rfl, rfl⟩
    exact ⟨rfl, h, Below.refl B _⟩
theorem u8_info : (Tryd.prog.info? 5).map (fun i => (i.zero, i.size, i.bytes)) = some (some (.int .u8 0), 1, 1) := by kernel_rfl
/-- What WriteString leaves. -/
def RetW (w0 : World) (B b : Nat) (l : List UInt8) (n : Nat) (e : Ending) (w' : World) : Prop := e = .returned (.tuple #[.int .i64 n, .nilIface]) ∧ Bd w' B b l ∧ Below B w0 w'
theorem String_any (B b : Nat) (l : List UInt8) (w : World) (h : Bd w B b l) :
    Calls Tryd.prog 39 #[.pointer (some ⟨b, 0, none⟩)] w fun e w' => e = .returned (.string ⟨l.toArray⟩) ∧ Below B w w' := Tryd.Builder_String_any B b l w h.is h.sz

set_option maxHeartbeats 1000000 in
set_option maxRecDepth 100000 in
theorem WriteByte_any (B b : Nat) (l : List UInt8) (x : UInt8) (w : World) (h : Bd w B b l) (hlen : l.length ≤ 1000000) :
    Calls Tryd.prog 38 #[.pointer (some ⟨b, 0, none⟩), .int .u8 (x.toNat : Int)] w (fun e w' => e = .returned .nilIface ∧ Bd w' B b (l ++ [x]) ∧ Below B w w') := by
  obtain ⟨i0, hi, hz0, hz1, hz2⟩ := info_parts u8_info
  have hBw := h.sz
  have C := copyCheck_any B b _ w h.is
  have hcl : (Lib.byteCells l).length = l.length := Lib.byteCells_length l
  have hl2 : (Lib.byteCells l).length ≤ 1000000 := by rw [hcl]; exact hlen
  have HF : Hid (Lib.byteCells (l ++ [x]) = Lib.byteCells l ++ [.int .u8 (x.toNat : Int)]) := by show _ = _; simp [Lib.byteCells]
  generalize Lib.byteCells l = bs at *
  generalize (x.toNat : Int) = xx at *
  clear h hcl
  go_enter Tryd.func38, Tryd.ntmps38
  go_wp2_with fail
  refine C.mono ?_
  rintro e w1 ⟨rfl, h1, hb1⟩
  obtain ⟨hB, v, hbk, hown, hne⟩ := h1
  have c0 : w1.cell? ⟨b, 0, none⟩ = some (.pointer (some ⟨b, 0, none⟩)) := by rw [Lib.cell_of_heap hbk]; rfl
  have c1 : w1.cell? ⟨b, 1, none⟩ = some v := by rw [Lib.cell_of_heap hbk]; rfl
  have hs1 := hb1.size
  have hs1x : B ≤ w1.heap.size := by omega
  have hown1 := World.ownsRow.alloc hown (.cells #[.int .u8 xx] 5)
  go_wp2_with (first | (at_builtin; refine wpList_append_own _ rfl (.tmp 11) (.tmp 13) 76 rfl B 5 i0 (.int .u8 0) 1 1 Tryd.underlying76 hi hz0 hz1 hz2 rfl (by omega) v bs.length bs rfl hown1 ⟨w1.heap.size, 0, none⟩ 1 1 [.int .u8 xx] rfl rfl (cell_one_new _ _ _) ?c2 ?c3 ?c4 ?c5 ?_) | fail)
  case c2 => intro u hu; simp at hu; subst hu; rfl
  case c3 => unfold maxLen; omega
  case c4 => omega
  case c5 => simp; omega
  intro v' w2 hown' hgrow _
  have hlt : b < w1.heap.size := by
    rcases Nat.lt_or_ge b w1.heap.size with h' | h'
    · exact h'
    · simp [Array.getElem?_eq_none h'] at hbk
  have hb2 : w2.heap[b]? = some (.cells #[.pointer (some ⟨b, 0, none⟩), v] 78 (0, 0)) := by
    rw [hgrow.block b (by simp; omega) (fun e => hne e.symm)]
    exact (heap_alloc_old w1 _ hlt).trans hbk
  have d0 : w2.cell? ⟨b, 0, none⟩ = some (.pointer (some ⟨b, 0, none⟩)) := by rw [Lib.cell_of_heap hb2]; rfl
  have d1 : w2.cell? ⟨b, 1, none⟩ = some v := by rw [Lib.cell_of_heap hb2]; rfl
  have f1 : w2.frozen? ⟨b, 1, none⟩ = false := Lib.frozen_of_heap hb2 1
  obtain ⟨ao, n', cap, rfl⟩ : ∃ ao n' cap, v' = .slice ao n' cap := by
    rcases hown'.2 with ⟨hv, _⟩ | ⟨g, cap, cur, hv, _⟩
    · exact ⟨_, _, _, hv⟩
    · exact ⟨_, _, _, hv⟩
  go_wp2
  go_ret
  refine ⟨rfl, ⟨.inr ?_, ?_⟩, ?_⟩
  · rw [HF.out]
    exact Lib.BuilderAt.put (T := 78) (e := 5) hB hb2 (bs' := bs ++ [.int .u8 xx]) (by simpa using hown') (by decide)
  · have := hgrow.size; simp at this; simp; omega
  · exact ((hb1.alloc hs1x (.cells #[.int .u8 xx] 5)).grown hgrow (by simp; omega) (fun k hk => (hown.lt k hk).1)).setCell (p := ⟨b, 1, none⟩) hB _
end Go.Proofs.YtekopdfnblfldaaDoor
/- A row's text, of both sides. -/
namespace Go.Proofs.YtekopdfnblfldaaDoor
open Go.RowKit
def Nn0 (l : List Int) : Prop := ∀ x ∈ l, 0 ≤ x
/-- The sign of a value. -/
def sign (x : Int) : UInt8 := if x = 0 then 48 else if x = 1 then 49 else 120
def textS (l : List Int) : List UInt8 := l.map sign
def strO (l : List UInt8) : ByteArray := ⟨l.toArray⟩
theorem strO_snoc (l : List UInt8) (x : UInt8) : strO (l ++ [x]) = strO l ++ ⟨#[x]⟩ := by
  apply ByteArray.ext
  simp [strO]
theorem textS_next (l : List Int) (j : Nat) (h : j < l.length) : textS (l.take (j + 1)) = textS (l.take j) ++ [sign (l.getD j 0)] := by
  have e : l[j]? = some (l.getD j 0) := by simp [List.getD_eq_getElem?_getD, h]
  unfold textS
  rw [List.take_add_one, e, List.map_append]
  rfl
theorem textS_len (l : List Int) : (textS l).length = l.length := by simp [textS]
theorem sign_index (x E : Int) (h : (if (2 : Int) < x then 2 else x) = E) (h0 : 0 ≤ x) (w : World) : (Instr.index 9 (.string ⟨#[48, 49, 120]⟩) (.int .u8 E)).run Tryd.prog w = .ok (.int .u8 ((sign x).toNat : Int)) w := by
  unfold sign
  by_cases e0 : x = 0
  · subst e0; subst h; rw [if_pos rfl]; kernel_rfl
  · rw [if_neg e0]
    by_cases e1 : x = 1
    · subst e1; subst h; rw [if_pos rfl]; kernel_rfl
    · rw [if_neg e1]
      obtain rfl : (2 : Int) = E := by rw [← h]; split <;> omega
      kernel_rfl
set_option maxHeartbeats 2000000 in
theorem Text_any (A : Option Addr) (c : Nat) (l : List Int) (w : World) (h : RT w w.heap.size A l) (hn : l.length ≤ 1000) (h0 : Nn0 l) :
    Calls Tryd.prog 19 #[.slice A l.length c] w (RetV w (.string (strO (textS l)))) := by
  have hb0 := Bd.new w
  have hbe := bal (Below.refl w.heap.size w) (.cells #[.pointer none, .slice none 0 0] 78)
  obtain ⟨T, hT⟩ : ∃ T, strO (textS l) = T := ⟨_, rfl⟩
  rw [hT]
  have HT : Hid (strO (textS l) = T) := hT
  have H := Lib.hid h
  have H0 := Lib.hid h0
  have HB0 := Lib.hid hb0
  have HBE := Lib.hid hbe
  have hgs : (w.alloc (.cells #[.pointer none, .slice none 0 0] 78)).heap.size = w.heap.size + 1 := by simp
  have HGS := Lib.hid hgs
  clear hT h h0 hb0 hbe hgs
  go_enter Tryd.func19, Tryd.ntmps19
  go_wp2
  generalize w.alloc (.cells #[.pointer none, .slice none 0 0] 78) = w0 at *
  go_loopg [8] l.length (fun g s wr => ∃ j : Nat, j + g = l.length ∧ s = .int .i64 j ∧ Bd wr w.heap.size w.heap.size (textS (l.take j)) ∧ Below w.heap.size w wr)
  case atStart => exact ⟨0, by omega, rfl, HB0.out, HBE.out⟩
  case round =>
    obtain ⟨j, hj, rfl, hbd, hbel⟩ := hrel
    cases gk with
    | zero =>
      have q1 : ¬ ((j : Int) < l.length) := by omega
      have q2 : ¬ (j < l.length) := by omega
      rw [show l.take j = l from List.take_of_length_le (by omega)] at hbd
      have C := String_any w.heap.size w.heap.size _ wr hbd
      rw [show (⟨(textS l).toArray⟩ : ByteArray) = T from HT.out] at C
      have HB := Lib.hid hbel
      clear hbd hbel
      go_wp2_with fail
      refine C.mono ?_; rintro e w' ⟨rfl, hb⟩
      have HB2 := Lib.hid (HB.out.trans hb)
      clear C hb
      go_wp2
      go_ret
      exact ⟨rfl, HB2.out⟩
    | succ g =>
      have hjl : j < l.length := by omega
      have hjl' : (j : Int) < l.length := by omega
      obtain ⟨ad, rfl, hab, hp⟩ := H.out j hjl
      have hp' := (hbel.cell (p := ad.add j) (by rw [block_add]; exact hab)).trans hp
      have hx0 : 0 ≤ l.getD j 0 := H0.out _ (by simp [List.getD_eq_getElem?_getD, hjl])
      have hnext := textS_next l j hjl
      have hlen := textS_len (l.take j)
      rw [List.length_take] at hlen
      obtain ⟨E, hE⟩ : ∃ E, (if (2 : Int) < l.getD j 0 then 2 else l.getD j 0) = E := ⟨_, rfl⟩
      have CE := asValue_any (l.getD j 0) E hE wr
      have hix := sign_index (l.getD j 0) E hE hx0
      have CW := WriteByte_any w.heap.size w.heap.size (textS (l.take j)) (sign (l.getD j 0)) wr hbd (by omega)
      rw [← hnext] at CW
      generalize ((sign (l.getD j 0)).toNat : Int) = sg at *
      generalize l.getD j 0 = x at *
      have HBEL := Lib.hid hbel
      clear hp hbel hbd hlen hE hnext hx0
      go_wp2_with fail
      refine CE.mono ?_; rintro e w' ⟨rfl, rfl⟩
      clear CE
      go_wp2_with fail
      refine CW.mono ?_; rintro e w' ⟨rfl, hbd, hb⟩
      have HBD := Lib.hid hbd
      have HB2 := Lib.hid (HBEL.out.trans hb)
      clear CW hbd hb
      go_wp2
      go_roundg g
      case measure => omega
      case rel => exact ⟨j + 1, by omega, by go_num, HBD.out, HB2.out⟩
set_option maxHeartbeats 2000000 in
theorem refText_any (A : Option Addr) (c : Nat) (l : List Int) (w : World) (h : RT w w.heap.size A l) (hn : l.length ≤ 1000) :
    Calls Tryd.prog 20 #[.slice A l.length c] w (RetV w (.string (strO (textS l)))) := by
  obtain ⟨T, hT⟩ : ∃ T, strO (textS l) = T := ⟨_, rfl⟩
  rw [hT]
  have HT : Hid (strO (textS l) = T) := hT
  have H := Lib.hid h
  have HZ : Hid (strO (textS (l.take 0)) = ⟨#[]⟩) := Lib.hid rfl
  clear hT h
  go_enter Tryd.func20, Tryd.ntmps20
  go_wp2
  go_loopg [3, 4] l.length (fun g s3 s4 wr => ∃ j : Nat, j + g = l.length ∧ s4 = .int .i64 j ∧ s3 = .string (strO (textS (l.take j))) ∧ Below w.heap.size w wr)
  case atStart => exact ⟨0, by omega, rfl, by rw [HZ.out], Below.refl _ _⟩
  case round =>
    obtain ⟨j, hj, rfl, rfl, hbel⟩ := hrel
    cases gk with
    | zero =>
      have q1 : ¬ ((j : Int) < l.length) := by omega
      have q2 : ¬ (j < l.length) := by omega
      have HV : Hid (strO (textS (l.take j)) = T) := by show _ = _; rw [show l.take j = l from List.take_of_length_le (by omega)]; exact HT.out
      generalize strO (textS (l.take j)) = S at *
      have HB := Lib.hid hbel
      clear hbel HZ
      go_wp2
      go_ret
      exact ⟨by rw [← HV.out]; rfl, HB.out⟩
    | succ g =>
      have hjl : j < l.length := by omega
      have hjl' : (j : Int) < l.length := by omega
      obtain ⟨ad, rfl, hab, hp⟩ := H.out j hjl
      have hp' := (hbel.cell (p := ad.add j) (by rw [block_add]; exact hab)).trans hp
      have hnext := textS_next l j hjl
      have zs : (strO (textS (l.take j))).size ≤ 1000 := by
        show (textS (l.take j)).length ≤ 1000
        rw [textS_len, List.length_take]; omega
      have HN : Hid (strO (textS (l.take (j + 1))) = strO (textS (l.take j)) ++ ⟨#[sign (l.getD j 0)]⟩) := by
        show _ = _
        rw [hnext, strO_snoc]
      unfold sign at HN
      generalize strO (textS (l.take j)) = S at *
      generalize l.getD j 0 = x at *
      have y1 : ¬ (9223372036854775807 < S.size + 1) := by omega
      have HBEL := Lib.hid hbel
      clear hp hbel hnext HZ zs
      by_cases h0 : x = 0
      · subst h0
        simp only [if_true] at HN
        go_wp2
        go_roundg g
        case measure => omega
        case rel => exact ⟨j + 1, by omega, by go_num, by rw [HN.out], HBEL.out⟩
      · have d0 : (x == 0) = false := by simpa using h0
        rw [if_neg h0] at HN
        by_cases h1 : x = 1
        · subst h1
          simp only [if_true] at HN
          go_wp2
          go_roundg g
          case measure => omega
          case rel => exact ⟨j + 1, by omega, by go_num, by rw [HN.out], HBEL.out⟩
        · have d1 : (x == 1) = false := by simpa using h1
          rw [if_neg h1] at HN
          go_wp2
          go_roundg g
          case measure => omega
          case rel => exact ⟨j + 1, by omega, by go_num, by rw [HN.out], HBEL.out⟩
end Go.Proofs.YtekopdfnblfldaaDoor
