/-
  The reference's first line.
-/
import Derived.Test.YtplcabecbofjpaaDoorProg
import Derived.WalkKit
import Derived.WalkSpells
import Derived.WalkLawsBesides
import Derived.Lib.Hide
import Derived.BigQuiet
import Derived.Deep.QuietTactic
import Derived.Deep.RegionWith
import Derived.Deep.RegionHeld3
import Derived.Test.YtplcabecbofjpaaDoorT18
set_option linter.unusedVariables false
namespace Go.Proofs.YtplcabecbofjpaaDoor
open Go.RowKit
/-- A place, and what is wrong there, behind a word. -/
def wordP (l : List UInt8) (p : Nat × Int) (s : ByteArray) : Nat × Int := if p.2 ≠ 0 then p else (behS l p.1 s, behE l p.1 s)
/-- A number, and the place behind it. -/
def numP (l : List UInt8) (p : Nat × Int) (most : Int) : Int × Nat × Int := if p.2 ≠ 0 then (0, p) else ((numberS (l.drop p.1) most).1, p.1 + (numberS (l.drop p.1) most).2.1, (numberS (l.drop p.1) most).2.2)
theorem wordP_le {l : List UInt8} {p : Nat × Int} {s : ByteArray} (h : p.1 ≤ l.length) : (wordP l p s).1 ≤ l.length := by
  unfold wordP; split
  · exact h
  · exact behS_le h
theorem numP_le {l : List UInt8} {p : Nat × Int} {most : Int} (h : p.1 ≤ l.length) : (numP l p most).2.1 ≤ l.length := by
  unfold numP; split
  · exact h
  · have := numberS_len (l.drop p.1) most
    rw [List.length_drop] at this
    simp only; omega
theorem Word_p (A : Option Addr) (c : Nat) (l : List UInt8) (p : Nat × Int) (s : ByteArray) (w : World) (h : Rd w w.heap.size A l) (hk : p.1 ≤ l.length) (hn : l.length ≤ maxLen) (hs : s.size ≤ maxLen) :
    Calls Tryd.prog 56 #[.agg #[.slice A l.length c, .int .i64 (p.1 : Int), .int .i64 p.2], .string s] w (RetV w (.agg #[.slice A l.length c, .int .i64 ((wordP l p s).1 : Int), .int .i64 (wordP l p s).2])) := by
  obtain ⟨k, bad⟩ := p
  unfold wordP
  by_cases hb : bad = 0
  · subst hb
    rw [if_neg (by simp)]
    exact Word_ok A c k l s w h hk hn hs
  · rw [if_pos hb]
    exact Word_bad A l.length c k bad s w (by simp [hb])
theorem Number_p (A : Option Addr) (c : Nat) (l : List UInt8) (p : Nat × Int) (most : Int) (w : World) (h : Rd w w.heap.size A l) (hk : p.1 ≤ l.length) (hn : l.length ≤ 1000000) (hm : 0 ≤ most) (hm2 : most ≤ 2147483647) :
    Calls Tryd.prog 55 #[.agg #[.slice A l.length c, .int .i64 (p.1 : Int), .int .i64 p.2], .int .i64 most] w (RetV w (.tuple #[.int .i64 (numP l p most).1, .agg #[.slice A l.length c, .int .i64 ((numP l p most).2.1 : Int), .int .i64 (numP l p most).2.2]])) := by
  obtain ⟨k, bad⟩ := p
  unfold numP
  by_cases hb : bad = 0
  · subst hb
    rw [if_neg (by simp)]
    exact refNumber_ok A c k most l w h hk hn hm hm2
  · rw [if_pos hb]
    exact refNumber_bad A l.length c k bad most w (by simp [hb])
/-- The first line, the reference's way, tells what rdHead tells. -/
theorem head_eq (l : List UInt8) :
    (wordP l (numP l (wordP l (numP l (wordP l (0, 0) ⟨#[112, 32, 99, 110, 102, 32]⟩) 100000).2 ⟨#[32]⟩) 20000).2 ⟨#[10]⟩) = ((rdHead l).2.2.1, (rdHead l).2.2.2) ∧
      ((rdHead l).2.2.2 = 0 → (numP l (wordP l (0, 0) ⟨#[112, 32, 99, 110, 102, 32]⟩) 100000).1 = (rdHead l).1 ∧ (numP l (wordP l (numP l (wordP l (0, 0) ⟨#[112, 32, 99, 110, 102, 32]⟩) 100000).2 ⟨#[32]⟩) 20000).1 = (rdHead l).2.1) := by
  have hB : ∀ (k : Nat) (s : ByteArray), isB l k s = bS (l.drop k) s.data.toList := fun k s => isB_bS l k s
  have w1 : ∀ k, wordP l (k, 0) ⟨#[112, 32, 99, 110, 102, 32]⟩ = if bS (l.drop k) headW then (k + 6, 0) else (k, 2) := by
    intro k; unfold wordP; rw [if_neg (by simp)]; simp only [behS, behE, hB]; show (if bS (l.drop k) headW = true then _ else _, if bS (l.drop k) headW = true then _ else _) = _; split <;> rfl
  have w2 : ∀ k, wordP l (k, 0) ⟨#[32]⟩ = if bS (l.drop k) [32] then (k + 1, 0) else (k, 2) := by
    intro k; unfold wordP; rw [if_neg (by simp)]; simp only [behS, behE, hB]; show (if bS (l.drop k) [32] = true then _ else _, if bS (l.drop k) [32] = true then _ else _) = _; split <;> rfl
  have w3 : ∀ k, wordP l (k, 0) ⟨#[10]⟩ = if bS (l.drop k) [10] then (k + 1, 0) else (k, 2) := by
    intro k; unfold wordP; rw [if_neg (by simp)]; simp only [behS, behE, hB]; show (if bS (l.drop k) [10] = true then _ else _, if bS (l.drop k) [10] = true then _ else _) = _; split <;> rfl
  have wb : ∀ (k : Nat) (e : Int) (s : ByteArray), e ≠ 0 → wordP l (k, e) s = (k, e) := by intro k e s he; unfold wordP; rw [if_pos he]
  have nb : ∀ (k : Nat) (e most : Int), e ≠ 0 → numP l (k, e) most = (0, k, e) := by intro k e most he; unfold numP; rw [if_pos he]
  have nk : ∀ (k : Nat) (most : Int), numP l (k, 0) most = ((numberS (l.drop k) most).1, k + (numberS (l.drop k) most).2.1, (numberS (l.drop k) most).2.2) := by intro k most; unfold numP; rw [if_neg (by simp)]
  unfold rdHead
  rw [w1 0, List.drop_zero, Nat.zero_add]
  cases h1 : bS l headW
  · rw [if_neg (by simp), if_pos rfl, nb 0 2 _ (by decide), wb 0 2 _ (by decide), nb 0 2 _ (by decide), wb 0 2 _ (by decide)]
    exact ⟨rfl, fun h => by simp at h⟩
  · rw [if_pos rfl, if_neg (by simp), nk]
    have he := numberS_err (t := l.drop 6) (most := 100000)
    generalize numberS (l.drop 6) 100000 = r at *
    obtain ⟨v, m, z⟩ := r
    simp only at *
    by_cases hz : z = 0
    · subst hz
      rw [if_neg (by simp), w2]
      cases h2 : bS (l.drop (6 + m)) [32]
      · rw [if_neg (by simp), if_pos rfl, nb (6 + m) 2 _ (by decide), wb (6 + m) 2 _ (by decide)]
        exact ⟨rfl, fun h => by simp at h⟩
      · rw [if_pos rfl, if_neg (by simp), nk]
        have he2 := numberS_err (t := l.drop (6 + m + 1)) (most := 20000)
        generalize numberS (l.drop (6 + m + 1)) 20000 = r2 at *
        obtain ⟨v2, m2, z2⟩ := r2
        simp only at *
        by_cases hz2 : z2 = 0
        · subst hz2
          rw [if_neg (by simp), w3]
          cases h3 : bS (l.drop (6 + m + 1 + m2)) [10]
          · rw [if_neg (by simp), if_pos rfl]
            exact ⟨rfl, fun h => by simp at h⟩
          · rw [if_pos rfl, if_neg (by simp)]
            exact ⟨rfl, fun _ => ⟨rfl, rfl⟩⟩
        · rw [if_pos hz2, wb _ _ _ hz2, (he2 hz2).2]
          exact ⟨rfl, fun h => absurd h hz2⟩
    · rw [if_pos hz, wb _ _ _ hz, nb _ _ _ hz, wb _ _ _ hz, (he hz).2]
      exact ⟨rfl, fun h => absurd h hz⟩
end Go.Proofs.YtplcabecbofjpaaDoor
