/-
  cnf.tell over the translated program: the text of a row of literals.
-/
import Derived.Test.YtplcabecbofjpaaDoorProg
import Derived.WalkKit
import Derived.WalkSpells
import Derived.WalkLawsBesides
import Derived.Lib.Hide
import Derived.BigQuiet
import Derived.Deep.QuietTactic
import Derived.Deep.RegionWith
import Derived.Deep.RegionHeld3
import Derived.Test.YtplcabecbofjpaaDoorS5
import Derived.Lib.ItoaLen
set_option linter.unusedVariables false
namespace Go.Proofs.YtplcabecbofjpaaDoor
open Go.RowKit
/-- The text of one literal, and of a row of them with what ends it. -/
def litS (x : Int) : List UInt8 := Lib.itoa x ++ [32]
def litsS (c : List Int) : List UInt8 := c.flatMap litS
def tellS (c : List Int) : List UInt8 := litsS c ++ [48, 10]
theorem litS_len (x : Int) (h0 : -9223372036854775808 ≤ x) (h1 : x ≤ 9223372036854775807) : (litS x).length ≤ 22 := by
  have := Lib.itoa_length_le x h0 h1
  simp only [litS, List.length_append, List.length_cons, List.length_nil]; omega
theorem litsS_len : ∀ (c : List Int), (∀ x ∈ c, -9223372036854775808 ≤ x ∧ x ≤ 9223372036854775807) → (litsS c).length ≤ 22 * c.length
  | [], _ => by simp [litsS]
  | x :: c, h => by
    have h1 := litS_len x (h x (by simp)).1 (h x (by simp)).2
    have h2 := litsS_len c (fun y hy => h y (by simp [hy]))
    simp only [litsS, List.flatMap_cons, List.length_append, List.length_cons] at *; omega
theorem litsS_snoc (c : List Int) (x : Int) : litsS (c ++ [x]) = litsS c ++ litS x := by simp [litsS]
theorem takeI (l : List Int) (i : Nat) (h : i < l.length) : l.take (i + 1) = l.take i ++ [l.getD i 0] := by
  rw [List.take_succ_eq_append_getElem h]; simp [List.getD, h]
/-- What a call that writes leaves. -/
def RetT (w0 : World) (B b : Nat) (l : List UInt8) (e : Ending) (w' : World) : Prop := e = .returned (.tuple #[]) ∧ Bd w' B b l ∧ Below B w0 w'
theorem btr {B : Nat} {w w1 w2 : World} (h : Below B w w1) (hb : Below w1.heap.size w1 w2) (hs : B ≤ w1.heap.size) : Below B w w2 := h.trans (hb.mono hs)
set_option maxHeartbeats 1000000 in
theorem tell_any (B b : Nat) (l : List UInt8) (A : Option Addr) (c : Nat) (lits : List Int) (w : World) (h : Bd w B b l) (hr : RI w B A lits) (hP : Pow B w) (hx : ∀ x ∈ lits, -9223372036854775808 ≤ x ∧ x ≤ 9223372036854775807) (hl : l.length ≤ 1000000000) (hc : lits.length ≤ 1000000) :
    Calls Tryd.prog 49 #[.pointer (some ⟨b, 0, none⟩), .slice A lits.length c] w (RetT w B b (l ++ tellS lits)) := by
  have HX := Lib.hid hx
  have HR := Lib.hid hr
  have HP := Lib.hid hP
  have HL := Lib.hid hl
  clear hx hr hP hl
  go_enter Tryd.func49, Tryd.ntmps49
  go_wp2
  go_loopw [8] (fun i wr => ∃ j : Nat, j ≤ lits.length ∧ i = .int .i64 j ∧ Bd wr B b (l ++ litsS (lits.take j)) ∧ Below B w wr) (fun i _ => lits.length - (intOf i).toNat)
  case atStart => exact ⟨0, Nat.zero_le _, rfl, by simpa [litsS] using h, Below.refl _ _⟩
  case round =>
    obtain ⟨j, hj, rfl, hbd, hB⟩ := hrel
    have hlen := litsS_len (lits.take j) (fun x hx => HX.out x (List.mem_of_mem_take hx))
    rw [List.length_take] at hlen
    have hll := HL.out
    have hsz := hbd.sz
    by_cases hlt : j < lits.length
    · obtain ⟨ad, rfl, hbk, hcell⟩ := (HR.out.below hB) j hlt
      have htk := takeI lits j hlt
      obtain ⟨x0, x1⟩ := HX.out (lits.getD j 0) (by simp [List.getD_eq_getElem?_getD, hlt])
      generalize lits.getD j 0 = x at *
      have hil := Lib.itoa_length_le x x0 x1
      have C := Itoa_any x x0 x1 B wr (HP.out.below hB)
      have HE : Hid (l ++ litsS (lits.take (j + 1)) = (l ++ litsS (lits.take j)) ++ Lib.itoa x ++ [32]) := by show _ = _; rw [htk, litsS_snoc]; simp [litS]
      have hm : (l ++ litsS (lits.take j)).length ≤ 2000000000 := by rw [List.length_append]; omega
      generalize l ++ litsS (lits.take j) = m at *
      have HB := Lib.hid hB
      have HD := Lib.hid hbd
      clear hB hbd htk hlen h
      go_wp2_with fail
      refine C.mono ?_; rintro e w1 ⟨rfl, hb1⟩
      have hD1 := HD.out.nx hb1
      have hB1 := btr HB.out hb1 hsz
      have C2 := Write_any B b m ⟨(Lib.itoa x).toArray⟩ w1 hD1 (by show _ + (Lib.itoa x).toArray.size ≤ _; rw [List.size_toArray]; omega)
      clear C HD HB hb1
      have HB1 := Lib.hid hB1
      have hs1 := hD1.sz
      clear hB1 hD1
      go_wp2_with fail
      refine C2.mono ?_; rintro e w2 ⟨rfl, hD2, hb2⟩
      have hB2 := HB1.out.trans hb2
      have hm2 : (m ++ (Lib.itoa x).toArray.toList).length + (⟨#[32]⟩ : ByteArray).size ≤ 1099511627776 := by
        rw [List.length_append, show (⟨#[32]⟩ : ByteArray).size = 1 from rfl]; simp; omega
      have C3 := Write_any B b (m ++ (Lib.itoa x).toArray.toList) ⟨#[32]⟩ w2 hD2 hm2
      clear C2 HB1 hb2 hm2 hD2
      have HB2 := Lib.hid hB2
      clear hB2
      go_wp2_with fail
      refine C3.mono ?_; rintro e w3 ⟨rfl, hD3, hb3⟩
      have hB3 := HB2.out.trans hb3
      clear C3 HB2 hb3
      go_wp2
      go_roundw
      case rel => exact ⟨j + 1, by omega, by go_num, by rw [HE.out]; simpa using hD3, hB3⟩
      case measure => simp [intOf]; omega
    · obtain rfl : j = lits.length := by omega
      rw [List.take_length] at hbd hlen
      have C := Write_any B b (l ++ litsS lits) ⟨#[48, 10]⟩ wr hbd (by rw [List.length_append, show (⟨#[48, 10]⟩ : ByteArray).size = 2 from rfl]; omega)
      have HE : Hid (l ++ tellS lits = (l ++ litsS lits) ++ [48, 10]) := by show _ = _; simp [tellS]
      generalize l ++ litsS lits = m at *
      have HB := Lib.hid hB
      clear hB hbd h hlen
      go_wp2_with fail
      refine C.mono ?_; rintro e w1 ⟨rfl, hD1, hb1⟩
      have hB1 := HB.out.trans hb1
      clear C HB hb1
      go_wp2
      go_end0
      exact ⟨rfl, by rw [HE.out]; exact hD1, hB1⟩
end Go.Proofs.YtplcabecbofjpaaDoor
