/-
  No cell of these rows narrows 'for every input' (looked for: loops, veiled, ifaces, maps, wideKeys, modest, calm, conditions, laid).
  DERIVED. THE GIVEN ROWS OF THIS SEAT. 7 by the template 'for every input the law returns true; each argument reads behind the call as it read before'; 0 by the template 'total and deterministic' (their statements: YtkdocjcpehmljaaTotals.lean).
  GIVEN WITH THE SEED: the statements are not yours to turn. If you find one false, say at which input.
  Laid BY PROGRAM, IN A SANDBOX (cutbox-rows.mjs): the forced cells as the released guide's own fill.sh prints them over the translation 083727b57915a4b6… (all of the seat's roots in one cut). By AI agents, Wed Nov 11 2026. No macro, syntax, notation, axiom, sorry.
-/
import Derived.Test.YtkdocjcpehmljaaChecked
import GoSem.Claim
import GoSem.ClaimJoined
import GoSem.ClaimMapViews
import Derived.JoinedTies
import Derived.KernelRfl
namespace Go.Proofs.Ytkdocjcpehmljaa
/- THE CELL 'sum', in the pinned program and in every row, IS THE sha256 OF THE DUMP (.gsa) THAT YtkdocjcpehmljaaProg.lean LOADS. Nothing in Lean hashes anything: it is a label: what it is worth is what the hold of that sum in a sandbox is worth. -/
noncomputable def Try.pinned : Pinned := { name := "ytkdocjcpehmljaa", sum := "083727b57915a4b6f5601528e86e1616d56e9b5f1cb440bd88d98f74728e8a2c", checked := Try.checked }
namespace Rows
def none {H : Type} : Left H := { results := [], args := [] }

/-- 'vidimuslaw08.SimTells': WHATEVER THE INPUT: true; the input reads as it did. -/
def simTellsSpec : ChangeSpec := { name := "simTells", fn := fun _ => fun
  | [d] => { results := [.lit (.bool true)], args := [d] }
  | _ => none }
def simTellsRow : OpenClaim := { program := "ytkdocjcpehmljaa", sum := "083727b57915a4b6f5601528e86e1616d56e9b5f1cb440bd88d98f74728e8a2c", func := "vidimus/vidimuslaw08.SimTells", spec := "simTells", unfollowed := true, recurses := true, apart := false }
def SimTellsSaid : Prop := simTellsRow.holds Try.pinned (OpenSpec.ofChange simTellsSpec)

/-- ITS FALSE NEIGHBOUR: 'it returns false'. Refute it at one input. -/
def simTellsWrong : ChangeSpec := { name := "simTells", fn := fun _ => fun
  | [d] => { results := [.lit (.bool false)], args := [d] }
  | _ => none }
def SimTellsWrongFalsely : Prop := simTellsRow.holds Try.pinned (OpenSpec.ofChange simTellsWrong)

/-- 'vidimuslaw08.SimGates': WHATEVER THE INPUT: true; the input reads as it did. -/
def simGatesSpec : ChangeSpec := { name := "simGates", fn := fun _ => fun
  | [d] => { results := [.lit (.bool true)], args := [d] }
  | _ => none }
def simGatesRow : OpenClaim := { program := "ytkdocjcpehmljaa", sum := "083727b57915a4b6f5601528e86e1616d56e9b5f1cb440bd88d98f74728e8a2c", func := "vidimus/vidimuslaw08.SimGates", spec := "simGates", unfollowed := true, recurses := true, apart := false }
def SimGatesSaid : Prop := simGatesRow.holds Try.pinned (OpenSpec.ofChange simGatesSpec)

/-- ITS FALSE NEIGHBOUR: 'it returns false'. Refute it at one input. -/
def simGatesWrong : ChangeSpec := { name := "simGates", fn := fun _ => fun
  | [d] => { results := [.lit (.bool false)], args := [d] }
  | _ => none }
def SimGatesWrongFalsely : Prop := simGatesRow.holds Try.pinned (OpenSpec.ofChange simGatesWrong)

/-- 'vidimuslaw08.SimRuns': WHATEVER THE INPUT: true; the input reads as it did. -/
def simRunsSpec : ChangeSpec := { name := "simRuns", fn := fun _ => fun
  | [d] => { results := [.lit (.bool true)], args := [d] }
  | _ => none }
def simRunsRow : OpenClaim := { program := "ytkdocjcpehmljaa", sum := "083727b57915a4b6f5601528e86e1616d56e9b5f1cb440bd88d98f74728e8a2c", func := "vidimus/vidimuslaw08.SimRuns", spec := "simRuns", unfollowed := true, recurses := true, apart := false }
def SimRunsSaid : Prop := simRunsRow.holds Try.pinned (OpenSpec.ofChange simRunsSpec)

/-- ITS FALSE NEIGHBOUR: 'it returns false'. Refute it at one input. -/
def simRunsWrong : ChangeSpec := { name := "simRuns", fn := fun _ => fun
  | [d] => { results := [.lit (.bool false)], args := [d] }
  | _ => none }
def SimRunsWrongFalsely : Prop := simRunsRow.holds Try.pinned (OpenSpec.ofChange simRunsWrong)

/-- 'vidimuslaw08.SimShapes': WHATEVER THE INPUT: true; the input reads as it did. -/
def simShapesSpec : ChangeSpec := { name := "simShapes", fn := fun _ => fun
  | [d1, d2, d3] => { results := [.lit (.bool true)], args := [d1, d2, d3] }
  | _ => none }
def simShapesRow : OpenClaim := { program := "ytkdocjcpehmljaa", sum := "083727b57915a4b6f5601528e86e1616d56e9b5f1cb440bd88d98f74728e8a2c", func := "vidimus/vidimuslaw08.SimShapes", spec := "simShapes", unfollowed := true, recurses := true, apart := false }
def SimShapesSaid : Prop := simShapesRow.holds Try.pinned (OpenSpec.ofChange simShapesSpec)

/-- ITS FALSE NEIGHBOUR: 'it returns false'. Refute it at one input. -/
def simShapesWrong : ChangeSpec := { name := "simShapes", fn := fun _ => fun
  | [d1, d2, d3] => { results := [.lit (.bool false)], args := [d1, d2, d3] }
  | _ => none }
def SimShapesWrongFalsely : Prop := simShapesRow.holds Try.pinned (OpenSpec.ofChange simShapesWrong)

/-- 'vidimuslaw08.SimTaken': WHATEVER THE INPUT: true; the input reads as it did. -/
def simTakenSpec : ChangeSpec := { name := "simTaken", fn := fun _ => fun
  | [d1, d2, d3] => { results := [.lit (.bool true)], args := [d1, d2, d3] }
  | _ => none }
def simTakenRow : OpenClaim := { program := "ytkdocjcpehmljaa", sum := "083727b57915a4b6f5601528e86e1616d56e9b5f1cb440bd88d98f74728e8a2c", func := "vidimus/vidimuslaw08.SimTaken", spec := "simTaken", unfollowed := true, recurses := true, apart := false }
def SimTakenSaid : Prop := simTakenRow.holds Try.pinned (OpenSpec.ofChange simTakenSpec)

/-- ITS FALSE NEIGHBOUR: 'it returns false'. Refute it at one input. -/
def simTakenWrong : ChangeSpec := { name := "simTaken", fn := fun _ => fun
  | [d1, d2, d3] => { results := [.lit (.bool false)], args := [d1, d2, d3] }
  | _ => none }
def SimTakenWrongFalsely : Prop := simTakenRow.holds Try.pinned (OpenSpec.ofChange simTakenWrong)

/-- 'vidimuslaw08.SimMore': WHATEVER THE INPUT: true; the input reads as it did. -/
def simMoreSpec : ChangeSpec := { name := "simMore", fn := fun _ => fun
  | [d] => { results := [.lit (.bool true)], args := [d] }
  | _ => none }
def simMoreRow : OpenClaim := { program := "ytkdocjcpehmljaa", sum := "083727b57915a4b6f5601528e86e1616d56e9b5f1cb440bd88d98f74728e8a2c", func := "vidimus/vidimuslaw08.SimMore", spec := "simMore", unfollowed := true, recurses := true, apart := false }
def SimMoreSaid : Prop := simMoreRow.holds Try.pinned (OpenSpec.ofChange simMoreSpec)

/-- ITS FALSE NEIGHBOUR: 'it returns false'. Refute it at one input. -/
def simMoreWrong : ChangeSpec := { name := "simMore", fn := fun _ => fun
  | [d] => { results := [.lit (.bool false)], args := [d] }
  | _ => none }
def SimMoreWrongFalsely : Prop := simMoreRow.holds Try.pinned (OpenSpec.ofChange simMoreWrong)

/-- 'vidimuslaw08.SimFirst': WHATEVER THE INPUT: true; the input reads as it did. -/
def simFirstSpec : ChangeSpec := { name := "simFirst", fn := fun _ => fun
  | [d1, d2] => { results := [.lit (.bool true)], args := [d1, d2] }
  | _ => none }
def simFirstRow : OpenClaim := { program := "ytkdocjcpehmljaa", sum := "083727b57915a4b6f5601528e86e1616d56e9b5f1cb440bd88d98f74728e8a2c", func := "vidimus/vidimuslaw08.SimFirst", spec := "simFirst", unfollowed := true, recurses := true, apart := false }
def SimFirstSaid : Prop := simFirstRow.holds Try.pinned (OpenSpec.ofChange simFirstSpec)

/-- ITS FALSE NEIGHBOUR: 'it returns false'. Refute it at one input. -/
def simFirstWrong : ChangeSpec := { name := "simFirst", fn := fun _ => fun
  | [d1, d2] => { results := [.lit (.bool false)], args := [d1, d2] }
  | _ => none }
def SimFirstWrongFalsely : Prop := simFirstRow.holds Try.pinned (OpenSpec.ofChange simFirstWrong)

/- THE SECOND FORM. 'bulk': how many values and letters a reading holds, each counted each time it is reached (what is shared counts as often as it is met; a slice's spare places count too). A statement '..UptoSaid' is the law's where the arguments, and the package variables that the reading takes, are together of bulk at most 1048576: NARROWER than '..Said'. Prove '..Said' where nothing that the law and all that it calls make is longer than what came in: it says more and counts as full. Else prove '..UptoSaid'. A law counts once. -/
mutual
def uptoBulk {H : Type} : DataW H → Nat
  | .lit (.string bytes) => bytes.length + 1
  | .lit _ => 1
  | .nil => 1
  | .ptr d => uptoBulk d + 1
  | .slice elems spare => uptoBulkAll elems + uptoBulkAll spare + 1
  | .agg parts => uptoBulkAll parts + 1
  | .iface _ d => uptoBulk d + 1
  | .map entries => uptoBulkEntries entries + 1
  | .held _ => 1
def uptoBulkAll {H : Type} : List (DataW H) → Nat
  | [] => 0
  | d :: r => uptoBulk d + uptoBulkAll r
def uptoBulkEntries {H : Type} : List (Lit × DataW H) → Nat
  | [] => 0
  | x :: r => uptoBulkEntry x + uptoBulkEntries r
def uptoBulkEntry {H : Type} : Lit × DataW H → Nat
  | (.string bytes, d) => bytes.length + uptoBulk d + 1
  | (_, d) => uptoBulk d + 1
 end
def uptoSmall : (H : Type) → List (DataW H) → Bool := fun _ ds => decide (uptoBulkAll ds ≤ 1048576)
def OpenSpec.upto (s : _root_.Go.ChangeSpec) : _root_.Go.OpenSpec := { _root_.Go.OpenSpec.ofChange s with cond := some uptoSmall }

/-- 'vidimuslaw08.SimTells', WHERE WHAT IT READS IS OF BULK AT MOST 1048576: true; the input reads as it did. -/
def simTellsUptoRow : OpenClaim := { program := "ytkdocjcpehmljaa", sum := "083727b57915a4b6f5601528e86e1616d56e9b5f1cb440bd88d98f74728e8a2c", func := "vidimus/vidimuslaw08.SimTells", spec := "simTells", unfollowed := true, recurses := true, apart := false, narrowed := true }
def SimTellsUptoSaid : Prop := simTellsUptoRow.holds Try.pinned (OpenSpec.upto simTellsSpec)

/-- 'vidimuslaw08.SimGates', WHERE WHAT IT READS IS OF BULK AT MOST 1048576: true; the input reads as it did. -/
def simGatesUptoRow : OpenClaim := { program := "ytkdocjcpehmljaa", sum := "083727b57915a4b6f5601528e86e1616d56e9b5f1cb440bd88d98f74728e8a2c", func := "vidimus/vidimuslaw08.SimGates", spec := "simGates", unfollowed := true, recurses := true, apart := false, narrowed := true }
def SimGatesUptoSaid : Prop := simGatesUptoRow.holds Try.pinned (OpenSpec.upto simGatesSpec)

/-- 'vidimuslaw08.SimRuns', WHERE WHAT IT READS IS OF BULK AT MOST 1048576: true; the input reads as it did. -/
def simRunsUptoRow : OpenClaim := { program := "ytkdocjcpehmljaa", sum := "083727b57915a4b6f5601528e86e1616d56e9b5f1cb440bd88d98f74728e8a2c", func := "vidimus/vidimuslaw08.SimRuns", spec := "simRuns", unfollowed := true, recurses := true, apart := false, narrowed := true }
def SimRunsUptoSaid : Prop := simRunsUptoRow.holds Try.pinned (OpenSpec.upto simRunsSpec)

/-- 'vidimuslaw08.SimShapes', WHERE WHAT IT READS IS OF BULK AT MOST 1048576: true; the input reads as it did. -/
def simShapesUptoRow : OpenClaim := { program := "ytkdocjcpehmljaa", sum := "083727b57915a4b6f5601528e86e1616d56e9b5f1cb440bd88d98f74728e8a2c", func := "vidimus/vidimuslaw08.SimShapes", spec := "simShapes", unfollowed := true, recurses := true, apart := false, narrowed := true }
def SimShapesUptoSaid : Prop := simShapesUptoRow.holds Try.pinned (OpenSpec.upto simShapesSpec)

/-- 'vidimuslaw08.SimTaken', WHERE WHAT IT READS IS OF BULK AT MOST 1048576: true; the input reads as it did. -/
def simTakenUptoRow : OpenClaim := { program := "ytkdocjcpehmljaa", sum := "083727b57915a4b6f5601528e86e1616d56e9b5f1cb440bd88d98f74728e8a2c", func := "vidimus/vidimuslaw08.SimTaken", spec := "simTaken", unfollowed := true, recurses := true, apart := false, narrowed := true }
def SimTakenUptoSaid : Prop := simTakenUptoRow.holds Try.pinned (OpenSpec.upto simTakenSpec)

/-- 'vidimuslaw08.SimMore', WHERE WHAT IT READS IS OF BULK AT MOST 1048576: true; the input reads as it did. -/
def simMoreUptoRow : OpenClaim := { program := "ytkdocjcpehmljaa", sum := "083727b57915a4b6f5601528e86e1616d56e9b5f1cb440bd88d98f74728e8a2c", func := "vidimus/vidimuslaw08.SimMore", spec := "simMore", unfollowed := true, recurses := true, apart := false, narrowed := true }
def SimMoreUptoSaid : Prop := simMoreUptoRow.holds Try.pinned (OpenSpec.upto simMoreSpec)

/-- 'vidimuslaw08.SimFirst', WHERE WHAT IT READS IS OF BULK AT MOST 1048576: true; the input reads as it did. -/
def simFirstUptoRow : OpenClaim := { program := "ytkdocjcpehmljaa", sum := "083727b57915a4b6f5601528e86e1616d56e9b5f1cb440bd88d98f74728e8a2c", func := "vidimus/vidimuslaw08.SimFirst", spec := "simFirst", unfollowed := true, recurses := true, apart := false, narrowed := true }
def SimFirstUptoSaid : Prop := simFirstUptoRow.holds Try.pinned (OpenSpec.upto simFirstSpec)

end Rows
end Go.Proofs.Ytkdocjcpehmljaa
