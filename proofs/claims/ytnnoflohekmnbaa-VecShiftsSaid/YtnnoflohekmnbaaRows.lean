/-
  No cell of these rows narrows 'for every input' (looked for: loops, veiled, ifaces, maps, wideKeys, modest, calm, conditions, laid).
  DERIVED. THE GIVEN ROWS OF THIS SEAT. 7 by the template 'for every input the law returns true; each argument reads behind the call as it read before'; 0 by the template 'total and deterministic' (their statements: YtnnoflohekmnbaaTotals.lean).
  GIVEN WITH THE SEED: the statements are not yours to turn. If you find one false, say at which input.
  Laid BY PROGRAM, IN A SANDBOX (cutbox-rows.mjs): the forced cells as the released guide's own fill.sh prints them over the translation 6b9290173b6d0b3d… (all of the seat's roots in one cut). By AI agents, Wed Nov 11 2026. No macro, syntax, notation, axiom, sorry.
-/
import Derived.Test.YtnnoflohekmnbaaChecked
import GoSem.Claim
import GoSem.ClaimJoined
import GoSem.ClaimMapViews
import Derived.JoinedTies
import Derived.KernelRfl
namespace Go.Proofs.Ytnnoflohekmnbaa
/- THE CELL 'sum', in the pinned program and in every row, IS THE sha256 OF THE DUMP (.gsa) THAT YtnnoflohekmnbaaProg.lean LOADS. Nothing in Lean hashes anything: it is a label: what it is worth is what the hold of that sum in a sandbox is worth. -/
noncomputable def Try.pinned : Pinned := { name := "ytnnoflohekmnbaa", sum := "6b9290173b6d0b3de9c5c315a16c1c837da9fe9702c22b5741bc6aac1313be9d", checked := Try.checked }
namespace Rows
def none {H : Type} : Left H := { results := [], args := [] }

/-- 'vidimuslaw02.VecTells': WHATEVER THE INPUT: true; the input reads as it did. -/
def vecTellsSpec : ChangeSpec := { name := "vecTells", fn := fun _ => fun
  | [d] => { results := [.lit (.bool true)], args := [d] }
  | _ => none }
def vecTellsRow : OpenClaim := { program := "ytnnoflohekmnbaa", sum := "6b9290173b6d0b3de9c5c315a16c1c837da9fe9702c22b5741bc6aac1313be9d", func := "vidimus/vidimuslaw02.VecTells", spec := "vecTells", inPlace := ["math/bits.Add64", "math/bits.Sub64"], unfollowed := true, recurses := true, apart := false }
def VecTellsSaid : Prop := vecTellsRow.holds Try.pinned (OpenSpec.ofChange vecTellsSpec)

/-- ITS FALSE NEIGHBOUR: 'it returns false'. Refute it at one input. -/
def vecTellsWrong : ChangeSpec := { name := "vecTells", fn := fun _ => fun
  | [d] => { results := [.lit (.bool false)], args := [d] }
  | _ => none }
def VecTellsWrongFalsely : Prop := vecTellsRow.holds Try.pinned (OpenSpec.ofChange vecTellsWrong)

/-- 'vidimuslaw02.VecReckons': WHATEVER THE INPUT: true; the input reads as it did. -/
def vecReckonsSpec : ChangeSpec := { name := "vecReckons", fn := fun _ => fun
  | [d1, d2, d3] => { results := [.lit (.bool true)], args := [d1, d2, d3] }
  | _ => none }
def vecReckonsRow : OpenClaim := { program := "ytnnoflohekmnbaa", sum := "6b9290173b6d0b3de9c5c315a16c1c837da9fe9702c22b5741bc6aac1313be9d", func := "vidimus/vidimuslaw02.VecReckons", spec := "vecReckons", inPlace := ["math/bits.Add64", "math/bits.Sub64"], unfollowed := true, recurses := true, apart := false }
def VecReckonsSaid : Prop := vecReckonsRow.holds Try.pinned (OpenSpec.ofChange vecReckonsSpec)

/-- ITS FALSE NEIGHBOUR: 'it returns false'. Refute it at one input. -/
def vecReckonsWrong : ChangeSpec := { name := "vecReckons", fn := fun _ => fun
  | [d1, d2, d3] => { results := [.lit (.bool false)], args := [d1, d2, d3] }
  | _ => none }
def VecReckonsWrongFalsely : Prop := vecReckonsRow.holds Try.pinned (OpenSpec.ofChange vecReckonsWrong)

/-- 'vidimuslaw02.VecCuts': WHATEVER THE INPUT: true; the input reads as it did. -/
def vecCutsSpec : ChangeSpec := { name := "vecCuts", fn := fun _ => fun
  | [d] => { results := [.lit (.bool true)], args := [d] }
  | _ => none }
def vecCutsRow : OpenClaim := { program := "ytnnoflohekmnbaa", sum := "6b9290173b6d0b3de9c5c315a16c1c837da9fe9702c22b5741bc6aac1313be9d", func := "vidimus/vidimuslaw02.VecCuts", spec := "vecCuts", inPlace := ["math/bits.Add64", "math/bits.Sub64"], unfollowed := true, recurses := true, apart := false }
def VecCutsSaid : Prop := vecCutsRow.holds Try.pinned (OpenSpec.ofChange vecCutsSpec)

/-- ITS FALSE NEIGHBOUR: 'it returns false'. Refute it at one input. -/
def vecCutsWrong : ChangeSpec := { name := "vecCuts", fn := fun _ => fun
  | [d] => { results := [.lit (.bool false)], args := [d] }
  | _ => none }
def VecCutsWrongFalsely : Prop := vecCutsRow.holds Try.pinned (OpenSpec.ofChange vecCutsWrong)

/-- 'vidimuslaw02.VecRing': WHATEVER THE INPUT: true; the input reads as it did. -/
def vecRingSpec : ChangeSpec := { name := "vecRing", fn := fun _ => fun
  | [d1, d2, d3] => { results := [.lit (.bool true)], args := [d1, d2, d3] }
  | _ => none }
def vecRingRow : OpenClaim := { program := "ytnnoflohekmnbaa", sum := "6b9290173b6d0b3de9c5c315a16c1c837da9fe9702c22b5741bc6aac1313be9d", func := "vidimus/vidimuslaw02.VecRing", spec := "vecRing", inPlace := ["math/bits.Add64", "math/bits.Sub64"], unfollowed := true, recurses := true, apart := false }
def VecRingSaid : Prop := vecRingRow.holds Try.pinned (OpenSpec.ofChange vecRingSpec)

/-- ITS FALSE NEIGHBOUR: 'it returns false'. Refute it at one input. -/
def vecRingWrong : ChangeSpec := { name := "vecRing", fn := fun _ => fun
  | [d1, d2, d3] => { results := [.lit (.bool false)], args := [d1, d2, d3] }
  | _ => none }
def VecRingWrongFalsely : Prop := vecRingRow.holds Try.pinned (OpenSpec.ofChange vecRingWrong)

/-- 'vidimuslaw02.VecBits': WHATEVER THE INPUT: true; the input reads as it did. -/
def vecBitsSpec : ChangeSpec := { name := "vecBits", fn := fun _ => fun
  | [d1, d2, d3] => { results := [.lit (.bool true)], args := [d1, d2, d3] }
  | _ => none }
def vecBitsRow : OpenClaim := { program := "ytnnoflohekmnbaa", sum := "6b9290173b6d0b3de9c5c315a16c1c837da9fe9702c22b5741bc6aac1313be9d", func := "vidimus/vidimuslaw02.VecBits", spec := "vecBits", inPlace := ["math/bits.Add64", "math/bits.Sub64"], unfollowed := true, recurses := true, apart := false }
def VecBitsSaid : Prop := vecBitsRow.holds Try.pinned (OpenSpec.ofChange vecBitsSpec)

/-- ITS FALSE NEIGHBOUR: 'it returns false'. Refute it at one input. -/
def vecBitsWrong : ChangeSpec := { name := "vecBits", fn := fun _ => fun
  | [d1, d2, d3] => { results := [.lit (.bool false)], args := [d1, d2, d3] }
  | _ => none }
def VecBitsWrongFalsely : Prop := vecBitsRow.holds Try.pinned (OpenSpec.ofChange vecBitsWrong)

/-- 'vidimuslaw02.VecShifts': WHATEVER THE INPUT: true; the input reads as it did. -/
def vecShiftsSpec : ChangeSpec := { name := "vecShifts", fn := fun _ => fun
  | [d1, d2] => { results := [.lit (.bool true)], args := [d1, d2] }
  | _ => none }
def vecShiftsRow : OpenClaim := { program := "ytnnoflohekmnbaa", sum := "6b9290173b6d0b3de9c5c315a16c1c837da9fe9702c22b5741bc6aac1313be9d", func := "vidimus/vidimuslaw02.VecShifts", spec := "vecShifts", inPlace := ["math/bits.Add64", "math/bits.Sub64"], unfollowed := true, recurses := true, apart := false }
def VecShiftsSaid : Prop := vecShiftsRow.holds Try.pinned (OpenSpec.ofChange vecShiftsSpec)

/-- ITS FALSE NEIGHBOUR: 'it returns false'. Refute it at one input. -/
def vecShiftsWrong : ChangeSpec := { name := "vecShifts", fn := fun _ => fun
  | [d1, d2] => { results := [.lit (.bool false)], args := [d1, d2] }
  | _ => none }
def VecShiftsWrongFalsely : Prop := vecShiftsRow.holds Try.pinned (OpenSpec.ofChange vecShiftsWrong)

/-- 'vidimuslaw02.VecParts': WHATEVER THE INPUT: true; the input reads as it did. -/
def vecPartsSpec : ChangeSpec := { name := "vecParts", fn := fun _ => fun
  | [d] => { results := [.lit (.bool true)], args := [d] }
  | _ => none }
def vecPartsRow : OpenClaim := { program := "ytnnoflohekmnbaa", sum := "6b9290173b6d0b3de9c5c315a16c1c837da9fe9702c22b5741bc6aac1313be9d", func := "vidimus/vidimuslaw02.VecParts", spec := "vecParts", inPlace := ["math/bits.Add64", "math/bits.Sub64"], unfollowed := true, recurses := true, apart := false }
def VecPartsSaid : Prop := vecPartsRow.holds Try.pinned (OpenSpec.ofChange vecPartsSpec)

/-- ITS FALSE NEIGHBOUR: 'it returns false'. Refute it at one input. -/
def vecPartsWrong : ChangeSpec := { name := "vecParts", fn := fun _ => fun
  | [d] => { results := [.lit (.bool false)], args := [d] }
  | _ => none }
def VecPartsWrongFalsely : Prop := vecPartsRow.holds Try.pinned (OpenSpec.ofChange vecPartsWrong)

/- THE SECOND FORM. 'bulk': how many values and letters a reading holds, each counted each time it is reached (what is shared counts as often as it is met; a slice's spare places count too). A statement '..UptoSaid' is the law's where the arguments, and the package variables that the reading takes, are together of bulk at most 1048576: NARROWER than '..Said'. Prove '..Said' where nothing that the law and all that it calls make is longer than what came in: it says more and counts as full. Else prove '..UptoSaid'. A law counts once. -/
mutual
def uptoBulk {H : Type} : DataW H → Nat
  | .lit (.string bytes) => bytes.length + 1
  | .lit _ => 1
  | .nil => 1
  | .ptr d => uptoBulk d + 1
  | .slice elems spare => uptoBulkAll elems + uptoBulkAll spare + 1
  | .agg parts => uptoBulkAll parts + 1
  | .iface _ d => uptoBulk d + 1
  | .map entries => uptoBulkEntries entries + 1
  | .held _ => 1
def uptoBulkAll {H : Type} : List (DataW H) → Nat
  | [] => 0
  | d :: r => uptoBulk d + uptoBulkAll r
def uptoBulkEntries {H : Type} : List (Lit × DataW H) → Nat
  | [] => 0
  | x :: r => uptoBulkEntry x + uptoBulkEntries r
def uptoBulkEntry {H : Type} : Lit × DataW H → Nat
  | (.string bytes, d) => bytes.length + uptoBulk d + 1
  | (_, d) => uptoBulk d + 1
 end
def uptoSmall : (H : Type) → List (DataW H) → Bool := fun _ ds => decide (uptoBulkAll ds ≤ 1048576)
def OpenSpec.upto (s : _root_.Go.ChangeSpec) : _root_.Go.OpenSpec := { _root_.Go.OpenSpec.ofChange s with cond := some uptoSmall }

/-- 'vidimuslaw02.VecTells', WHERE WHAT IT READS IS OF BULK AT MOST 1048576: true; the input reads as it did. -/
def vecTellsUptoRow : OpenClaim := { program := "ytnnoflohekmnbaa", sum := "6b9290173b6d0b3de9c5c315a16c1c837da9fe9702c22b5741bc6aac1313be9d", func := "vidimus/vidimuslaw02.VecTells", spec := "vecTells", inPlace := ["math/bits.Add64", "math/bits.Sub64"], unfollowed := true, recurses := true, apart := false, narrowed := true }
def VecTellsUptoSaid : Prop := vecTellsUptoRow.holds Try.pinned (OpenSpec.upto vecTellsSpec)

/-- 'vidimuslaw02.VecReckons', WHERE WHAT IT READS IS OF BULK AT MOST 1048576: true; the input reads as it did. -/
def vecReckonsUptoRow : OpenClaim := { program := "ytnnoflohekmnbaa", sum := "6b9290173b6d0b3de9c5c315a16c1c837da9fe9702c22b5741bc6aac1313be9d", func := "vidimus/vidimuslaw02.VecReckons", spec := "vecReckons", inPlace := ["math/bits.Add64", "math/bits.Sub64"], unfollowed := true, recurses := true, apart := false, narrowed := true }
def VecReckonsUptoSaid : Prop := vecReckonsUptoRow.holds Try.pinned (OpenSpec.upto vecReckonsSpec)

/-- 'vidimuslaw02.VecCuts', WHERE WHAT IT READS IS OF BULK AT MOST 1048576: true; the input reads as it did. -/
def vecCutsUptoRow : OpenClaim := { program := "ytnnoflohekmnbaa", sum := "6b9290173b6d0b3de9c5c315a16c1c837da9fe9702c22b5741bc6aac1313be9d", func := "vidimus/vidimuslaw02.VecCuts", spec := "vecCuts", inPlace := ["math/bits.Add64", "math/bits.Sub64"], unfollowed := true, recurses := true, apart := false, narrowed := true }
def VecCutsUptoSaid : Prop := vecCutsUptoRow.holds Try.pinned (OpenSpec.upto vecCutsSpec)

/-- 'vidimuslaw02.VecRing', WHERE WHAT IT READS IS OF BULK AT MOST 1048576: true; the input reads as it did. -/
def vecRingUptoRow : OpenClaim := { program := "ytnnoflohekmnbaa", sum := "6b9290173b6d0b3de9c5c315a16c1c837da9fe9702c22b5741bc6aac1313be9d", func := "vidimus/vidimuslaw02.VecRing", spec := "vecRing", inPlace := ["math/bits.Add64", "math/bits.Sub64"], unfollowed := true, recurses := true, apart := false, narrowed := true }
def VecRingUptoSaid : Prop := vecRingUptoRow.holds Try.pinned (OpenSpec.upto vecRingSpec)

/-- 'vidimuslaw02.VecBits', WHERE WHAT IT READS IS OF BULK AT MOST 1048576: true; the input reads as it did. -/
def vecBitsUptoRow : OpenClaim := { program := "ytnnoflohekmnbaa", sum := "6b9290173b6d0b3de9c5c315a16c1c837da9fe9702c22b5741bc6aac1313be9d", func := "vidimus/vidimuslaw02.VecBits", spec := "vecBits", inPlace := ["math/bits.Add64", "math/bits.Sub64"], unfollowed := true, recurses := true, apart := false, narrowed := true }
def VecBitsUptoSaid : Prop := vecBitsUptoRow.holds Try.pinned (OpenSpec.upto vecBitsSpec)

/-- 'vidimuslaw02.VecShifts', WHERE WHAT IT READS IS OF BULK AT MOST 1048576: true; the input reads as it did. -/
def vecShiftsUptoRow : OpenClaim := { program := "ytnnoflohekmnbaa", sum := "6b9290173b6d0b3de9c5c315a16c1c837da9fe9702c22b5741bc6aac1313be9d", func := "vidimus/vidimuslaw02.VecShifts", spec := "vecShifts", inPlace := ["math/bits.Add64", "math/bits.Sub64"], unfollowed := true, recurses := true, apart := false, narrowed := true }
def VecShiftsUptoSaid : Prop := vecShiftsUptoRow.holds Try.pinned (OpenSpec.upto vecShiftsSpec)

/-- 'vidimuslaw02.VecParts', WHERE WHAT IT READS IS OF BULK AT MOST 1048576: true; the input reads as it did. -/
def vecPartsUptoRow : OpenClaim := { program := "ytnnoflohekmnbaa", sum := "6b9290173b6d0b3de9c5c315a16c1c837da9fe9702c22b5741bc6aac1313be9d", func := "vidimus/vidimuslaw02.VecParts", spec := "vecParts", inPlace := ["math/bits.Add64", "math/bits.Sub64"], unfollowed := true, recurses := true, apart := false, narrowed := true }
def VecPartsUptoSaid : Prop := vecPartsUptoRow.holds Try.pinned (OpenSpec.upto vecPartsSpec)

end Rows
end Go.Proofs.Ytnnoflohekmnbaa
