/-
  Texts of bytes.
-/
import Derived.Test.YtplcabecbofjpaaDoorProg
import Derived.WalkKit
import Derived.WalkSpells
import Derived.WalkLawsBesides
import Derived.Lib.Hide
import Derived.BigQuiet
import Derived.Deep.QuietTactic
import Derived.Deep.RegionWith
import Derived.Deep.RegionHeld3
import Derived.Test.YtplcabecbofjpaaDoorT4
set_option linter.unusedVariables false
namespace Go.Proofs.YtplcabecbofjpaaDoor
open Go.RowKit
/-- A list as a text. -/
def strOf (l : List UInt8) : ByteArray := ⟨l.toArray⟩
theorem strOf_size (l : List UInt8) : (strOf l).size = l.length := rfl
theorem strOf_data (l : List UInt8) : (strOf l).data.toList = l := rfl
theorem parse_bytes (w : World) (S : ByteArray) (l : List UInt8) (hS : S = strOf l) (hl : l.length ≤ 100000) :
    Calls Tryd.prog 19 #[.slice (some ⟨w.heap.size, 0, none⟩) S.size (grownCap w S.size 0 5)] (Lib.bytesWorld w 5 S) (RetP w (parseS l).1.1 (parseS l).1.2 (parseS l).2.1 (parseS l).2.2) := by
  subst hS
  obtain ⟨b1, b2, b3⟩ := bytes_read w (strOf l)
  have := Parse_any (some ⟨w.heap.size, 0, none⟩) (grownCap w l.length 0 5) l (Lib.bytesWorld w 5 (strOf l)) (by rw [b3]; exact b1) (grownCap_ge _ _ _ _) (grownCap_le_maxLen _ _ _ _ (by unfold maxLen; omega))
  rw [strOf_size]
  exact this.mono fun e w' ⟨A, c, h1, h2, h3, h4⟩ => ⟨A, c, h1, h2, h3, bnx b2 h4⟩
theorem model_bytes (w : World) (S : ByteArray) (l : List UInt8) (n : Nat) (hS : S = strOf l) (hl : l.length ≤ 100000) (hn : n ≤ 100000) (hP : Pow w.heap.size w) :
    Calls Tryd.prog 25 #[.slice (some ⟨w.heap.size, 0, none⟩) S.size (grownCap w S.size 0 5), .int .i64 n] (Lib.bytesWorld w 5 S) (RetM w (parseM l n).1 (parseM l n).2.1 (parseM l n).2.2) := by
  subst hS
  obtain ⟨b1, b2, b3⟩ := bytes_read w (strOf l)
  have := ParseModel_any (some ⟨w.heap.size, 0, none⟩) (grownCap w l.length 0 5) n l (Lib.bytesWorld w 5 (strOf l)) (by rw [b3]; exact b1) (grownCap_ge _ _ _ _) (grownCap_le_maxLen _ _ _ _ (by unfold maxLen; omega)) hn (hP.nx b2)
  rw [strOf_size]
  exact this.mono fun e w' ⟨A, c, h1, h2, h3, h4⟩ => ⟨A, c, h1, h2, h3, bnx b2 h4⟩
theorem sameF_self (N : Int) (L : List (List Int)) : sameF N N L L = true := by simp [sameF]
theorem parse_err (l : List UInt8) : (parseS l).2.2 = 0 ∨ ((parseS l).2.2 != 0) = true := by
  by_cases h : (parseS l).2.2 = 0
  · exact .inl h
  · exact .inr (by simp [h])
end Go.Proofs.YtplcabecbofjpaaDoor
