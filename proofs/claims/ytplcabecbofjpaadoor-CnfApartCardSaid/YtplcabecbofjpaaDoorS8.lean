/-
  The readers of package cnf over the translated program.
-/
import Derived.Test.YtplcabecbofjpaaDoorProg
import Derived.WalkKit
import Derived.WalkSpells
import Derived.WalkLawsBesides
import Derived.Lib.Hide
import Derived.BigQuiet
import Derived.Deep.QuietTactic
import Derived.Deep.RegionWith
import Derived.Deep.RegionHeld3
import Derived.Test.YtplcabecbofjpaaDoorS7
set_option linter.unusedVariables false
namespace Go.Proofs.YtplcabecbofjpaaDoor
open Go.RowKit
/-- Behind a word: the place and the error. -/
def behS (l : List UInt8) (k : Nat) (s : ByteArray) : Nat := if isB l k s then k + s.size else k
def behE (l : List UInt8) (k : Nat) (s : ByteArray) : Int := if isB l k s then 0 else 2
theorem behS_le {l : List UInt8} {k : Nat} {s : ByteArray} (h : k ≤ l.length) : behS l k s ≤ l.length := by
  unfold behS; split
  · rename_i hb; have := isB_len hb; omega
  · exact h
set_option maxHeartbeats 400000 in
theorem behind_yes (A : Option Addr) (c k : Nat) (l : List UInt8) (s : ByteArray) (B : Nat) (w : World) (h : Rd w B A l) (hk : k ≤ l.length) (hn : l.length ≤ c) (hc : c ≤ maxLen) (hb : isB l k s = true) :
    Calls Tryd.prog 65 #[.slice A l.length c, .int .i64 k, .string s] w (RetS w (.tuple #[.int .i64 ((k + s.size : Nat) : Int), .int .i64 0])) := by
  have C := Is_yes A c k l s B w h hk hn hc hb
  rw [← Int.natCast_add] at C
  generalize k + s.size = K at *
  clear h hb
  go_enter Tryd.func65, Tryd.ntmps65
  go_wp2_with fail
  refine C.mono ?_; rintro e w' ⟨rfl, rfl⟩
  go_wp2
  go_ret2
  exact ⟨rfl, rfl⟩
set_option maxHeartbeats 400000 in
theorem behind_no (A : Option Addr) (c k : Nat) (l : List UInt8) (s : ByteArray) (B : Nat) (w : World) (h : Rd w B A l) (hk : k ≤ l.length) (hn : l.length ≤ c) (hc : c ≤ maxLen) (hs : s.size ≤ maxLen) (hb : isB l k s = false) :
    Calls Tryd.prog 65 #[.slice A l.length c, .int .i64 k, .string s] w (RetS w (.tuple #[.int .i64 (k : Int), .int .i64 2])) := by
  have C := Is_no A c k l s B w h hk hn hc hs hb
  clear h hb
  go_enter Tryd.func65, Tryd.ntmps65
  go_wp2_with fail
  refine C.mono ?_; rintro e w' ⟨rfl, rfl⟩
  go_wp2
  go_ret2
  exact ⟨rfl, rfl⟩
theorem behind_any (A : Option Addr) (c k : Nat) (l : List UInt8) (s : ByteArray) (B : Nat) (w : World) (h : Rd w B A l) (hk : k ≤ l.length) (hn : l.length ≤ c) (hc : c ≤ maxLen) (hs : s.size ≤ maxLen) :
    Calls Tryd.prog 65 #[.slice A l.length c, .int .i64 k, .string s] w (RetS w (.tuple #[.int .i64 ((behS l k s : Nat) : Int), .int .i64 (behE l k s)])) := by
  unfold behS behE
  cases hb : isB l k s
  · exact behind_no A c k l s B w h hk hn hc hs hb
  · exact behind_yes A c k l s B w h hk hn hc hb
/-- Does a word stand at the head of t? -/
def bS (t s : List UInt8) : Bool := t.take s.length == s
theorem isB_bS (l : List UInt8) (k : Nat) (s : ByteArray) : isB l k s = bS (l.drop k) s.data.toList := by
  unfold isB bS; rw [Array.length_toList]; rfl
theorem bS_len {t s : List UInt8} (h : bS t s = true) : s.length ≤ t.length := by
  have e := congrArg List.length (beq_iff_eq.1 h)
  simp only [List.length_take] at e; omega
/-- The first line of a text: variables, clauses, how far, what is wrong. -/
def headW : List UInt8 := [112, 32, 99, 110, 102, 32]
def rdHead (t : List UInt8) : Int × Int × Nat × Int :=
  if bS t headW = false then (0, 0, 0, 2)
  else if (numberS (t.drop 6) 100000).2.2 ≠ 0 then (0, 0, 6, (numberS (t.drop 6) 100000).2.2)
  else if bS (t.drop (6 + (numberS (t.drop 6) 100000).2.1)) [32] = false then ((numberS (t.drop 6) 100000).1, 0, 6 + (numberS (t.drop 6) 100000).2.1, 2)
  else if (numberS (t.drop (6 + (numberS (t.drop 6) 100000).2.1 + 1)) 20000).2.2 ≠ 0 then ((numberS (t.drop 6) 100000).1, 0, 6 + (numberS (t.drop 6) 100000).2.1 + 1, (numberS (t.drop (6 + (numberS (t.drop 6) 100000).2.1 + 1)) 20000).2.2)
  else if bS (t.drop (6 + (numberS (t.drop 6) 100000).2.1 + 1 + (numberS (t.drop (6 + (numberS (t.drop 6) 100000).2.1 + 1)) 20000).2.1)) [10] = false then ((numberS (t.drop 6) 100000).1, (numberS (t.drop (6 + (numberS (t.drop 6) 100000).2.1 + 1)) 20000).1, 6 + (numberS (t.drop 6) 100000).2.1 + 1 + (numberS (t.drop (6 + (numberS (t.drop 6) 100000).2.1 + 1)) 20000).2.1, 2)
  else ((numberS (t.drop 6) 100000).1, (numberS (t.drop (6 + (numberS (t.drop 6) 100000).2.1 + 1)) 20000).1, 6 + (numberS (t.drop 6) 100000).2.1 + 1 + (numberS (t.drop (6 + (numberS (t.drop 6) 100000).2.1 + 1)) 20000).2.1 + 1, 0)
theorem numberS_err {t : List UInt8} {most : Int} (h : (numberS t most).2.2 ≠ 0) : (numberS t most).1 = 0 ∧ (numberS t most).2.1 = 0 := by
  unfold numberS at *
  split
  · exact ⟨rfl, rfl⟩
  · split
    · exact ⟨rfl, rfl⟩
    · rename_i h1 h2; simp [h1, h2] at h
/-- What a call tells that reads a first line. -/
def resH (r : Int × Int × Nat × Int) : Value := .tuple #[.int .i64 r.1, .int .i64 r.2.1, .int .i64 ((r.2.2.1 : Nat) : Int), .int .i64 r.2.2.2]
theorem retH {w : World} {a b d : Int} {k : Nat} : RetS w (resH (a, b, k, d)) (.returned (.tuple #[.int .i64 a, .int .i64 b, .int .i64 ((k : Nat) : Int), .int .i64 d])) w := ⟨rfl, rfl⟩
set_option maxHeartbeats 2000000 in
theorem readHead_any (A : Option Addr) (c : Nat) (l : List UInt8) (B : Nat) (w : World) (h : Rd w B A l) (hn : l.length ≤ c) (hc : c ≤ maxLen) :
    Calls Tryd.prog 53 #[.slice A l.length c] w (RetS w (resH (rdHead l))) := by
  have hc' := hc
  unfold maxLen at hc'
  have c1y := behind_yes A c 0 l ⟨#[112, 32, 99, 110, 102, 32]⟩ B w h (by omega) hn hc
  have c1n := behind_no A c 0 l ⟨#[112, 32, 99, 110, 102, 32]⟩ B w h (by omega) hn hc (by decide)
  rw [isB_bS, List.drop_zero] at c1y c1n
  unfold rdHead
  cases h1 : bS l headW
  · have C1 := c1n h1
    rw [if_pos rfl]
    clear c1y c1n h h1
    go_enter Tryd.func53, Tryd.ntmps53
    go_wp2_with fail
    refine C1.mono ?_; rintro e w' ⟨rfl, rfl⟩
    go_wp2
    exact bodyPost_ret (by simp [results, Tryd.results53, go_sem]) rfl retH
  · have C1 : Calls Tryd.prog 65 #[.slice A l.length c, .int .i64 0, .string ⟨#[112, 32, 99, 110, 102, 32]⟩] w (RetS w (.tuple #[.int .i64 6, .int .i64 0])) := c1y h1
    have hl6 : 6 ≤ l.length := bS_len h1
    rw [if_neg (by simp)]
    clear c1y c1n h1
    have c2 := Number_any A c 6 100000 l B w h hl6 hn hc
    have herr := @numberS_err (l.drop 6) 100000
    have hbd := numberS_bd (l.drop 6) 100000
    have hlen := numberS_len (l.drop 6) 100000
    rw [List.length_drop] at hlen
    obtain ⟨⟨n, m, e⟩, hr⟩ : ∃ r, numberS (l.drop 6) 100000 = r := ⟨_, rfl⟩
    rw [hr] at c2 herr hbd hlen ⊢
    clear hr
    simp only at herr hbd hlen ⊢
    obtain ⟨n0, n1, _, _⟩ := hbd
    unfold res3 at c2
    simp only at c2
    by_cases he : e = 0
    · subst he
      rw [if_neg (by simp)]
      obtain ⟨K1, hK1⟩ : ∃ K, 6 + m = K := ⟨_, rfl⟩
      rw [hK1] at c2 ⊢
      have hk1 : K1 ≤ l.length := by omega
      have c3y := behind_yes A c K1 l ⟨#[32]⟩ B w h hk1 hn hc
      have c3n := behind_no A c K1 l ⟨#[32]⟩ B w h hk1 hn hc (by decide)
      rw [isB_bS] at c3y c3n
      clear hK1 herr hlen
      cases h3 : bS (l.drop K1) [32]
      · have C3 := c3n h3
        rw [if_pos rfl]
        clear c3y c3n h h3
        go_enter Tryd.func53, Tryd.ntmps53
        go_wp2_with fail
        refine C1.mono ?_; rintro e w' ⟨rfl, rfl⟩
        go_wp2_with fail
        refine c2.mono ?_; rintro e w' ⟨rfl, rfl⟩
        go_wp2_with fail
        refine C3.mono ?_; rintro e w' ⟨rfl, rfl⟩
        go_wp2
        exact bodyPost_ret (by simp [results, Tryd.results53, go_sem]) rfl retH
      · have C3 := c3y h3
        rw [if_neg (by simp)]
        have hk1' : K1 + 1 ≤ l.length := by have := bS_len h3; simp at this; omega
        have ez : K1 + (⟨#[32]⟩ : ByteArray).size = K1 + 1 := rfl
        rw [ez] at C3
        obtain ⟨K2, hK2⟩ : ∃ K, K1 + 1 = K := ⟨_, rfl⟩
        rw [hK2] at C3 hk1' ⊢
        clear c3y c3n h3 hK2 ez
        have c4 := Number_any A c K2 20000 l B w h hk1' hn hc
        have herr := @numberS_err (l.drop K2) 20000
        have hbd := numberS_bd (l.drop K2) 20000
        have hlen := numberS_len (l.drop K2) 20000
        rw [List.length_drop] at hlen
        obtain ⟨⟨n', m', e'⟩, hr⟩ : ∃ r, numberS (l.drop K2) 20000 = r := ⟨_, rfl⟩
        rw [hr] at c4 herr hbd hlen ⊢
        clear hr
        simp only at herr hbd hlen ⊢
        obtain ⟨n0', n1', _, _⟩ := hbd
        unfold res3 at c4
        simp only at c4
        by_cases he' : e' = 0
        · subst he'
          rw [if_neg (by simp)]
          obtain ⟨K3, hK3⟩ : ∃ K, K2 + m' = K := ⟨_, rfl⟩
          rw [hK3] at c4 ⊢
          have hk3 : K3 ≤ l.length := by omega
          have c5y := behind_yes A c K3 l ⟨#[10]⟩ B w h hk3 hn hc
          have c5n := behind_no A c K3 l ⟨#[10]⟩ B w h hk3 hn hc (by decide)
          rw [isB_bS] at c5y c5n
          have ez : K3 + (⟨#[10]⟩ : ByteArray).size = K3 + 1 := rfl
          rw [ez] at c5y
          clear hK3 herr hlen ez
          cases h5 : bS (l.drop K3) [10]
          · have C5 := c5n h5
            rw [if_pos rfl]
            clear c5y c5n h h5
            go_enter Tryd.func53, Tryd.ntmps53
            go_wp2_with fail
            refine C1.mono ?_; rintro e w' ⟨rfl, rfl⟩
            go_wp2_with fail
            refine c2.mono ?_; rintro e w' ⟨rfl, rfl⟩
            go_wp2_with fail
            refine C3.mono ?_; rintro e w' ⟨rfl, rfl⟩
            go_wp2_with fail
            refine c4.mono ?_; rintro e w' ⟨rfl, rfl⟩
            go_wp2_with fail
            refine C5.mono ?_; rintro e w' ⟨rfl, rfl⟩
            go_wp2
            exact bodyPost_ret (by simp [results, Tryd.results53, go_sem]) rfl retH
          · have C5 := c5y h5
            rw [if_neg (by simp)]
            obtain ⟨K4, hK4⟩ : ∃ K, K3 + 1 = K := ⟨_, rfl⟩
            rw [hK4] at C5 ⊢
            clear c5y c5n h h5 hK4
            go_enter Tryd.func53, Tryd.ntmps53
            go_wp2_with fail
            refine C1.mono ?_; rintro e w' ⟨rfl, rfl⟩
            go_wp2_with fail
            refine c2.mono ?_; rintro e w' ⟨rfl, rfl⟩
            go_wp2_with fail
            refine C3.mono ?_; rintro e w' ⟨rfl, rfl⟩
            go_wp2_with fail
            refine c4.mono ?_; rintro e w' ⟨rfl, rfl⟩
            go_wp2_with fail
            refine C5.mono ?_; rintro e w' ⟨rfl, rfl⟩
            go_wp2
            exact bodyPost_ret (by simp [results, Tryd.results53, go_sem]) rfl retH
        · obtain ⟨rfl, rfl⟩ := herr he'
          rw [if_pos (by simpa using he'), Nat.add_zero] at *
          have heb : (e' == 0) = false := by simp [he']
          clear h he' herr hlen
          go_enter Tryd.func53, Tryd.ntmps53
          go_wp2_with fail
          refine C1.mono ?_; rintro e w' ⟨rfl, rfl⟩
          go_wp2_with fail
          refine c2.mono ?_; rintro e w' ⟨rfl, rfl⟩
          go_wp2_with fail
          refine C3.mono ?_; rintro e w' ⟨rfl, rfl⟩
          go_wp2_with fail
          refine c4.mono ?_; rintro e w' ⟨rfl, rfl⟩
          go_wp2
          exact bodyPost_ret (by simp [results, Tryd.results53, go_sem]) rfl retH
    · obtain ⟨rfl, rfl⟩ := herr he
      rw [if_pos (by simpa using he)]
      rw [Nat.add_zero] at c2
      have heb : (e == 0) = false := by simp [he]
      clear h he herr hlen
      go_enter Tryd.func53, Tryd.ntmps53
      go_wp2_with fail
      refine C1.mono ?_; rintro e w' ⟨rfl, rfl⟩
      go_wp2_with fail
      refine c2.mono ?_; rintro e w' ⟨rfl, rfl⟩
      go_wp2
      exact bodyPost_ret (by simp [results, Tryd.results53, go_sem]) rfl retH
end Go.Proofs.YtplcabecbofjpaaDoor
