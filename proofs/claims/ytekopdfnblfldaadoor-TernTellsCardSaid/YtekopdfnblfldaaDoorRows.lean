/-
  NARROWER THAN 'FOR EVERY INPUT', by the rows' own cells (each row's printed sentence says how): TernTells: laid · TernSteps: laid · TernBelow: laid · TernTwo: laid · TernOrder: laid · TernBelows: laid · TernExact: laid.
  DERIVED. THE GIVEN ROWS OF THIS SEAT. 7 by the template 'for every input the law returns true; each argument reads behind the call as it read before'; 0 by the template 'total and deterministic' (their statements: YtekopdfnblfldaaDoorTotals.lean).
  GIVEN WITH THE SEED: the statements are not yours to turn. If you find one false, say at which input.
  Laid BY PROGRAM, IN A SANDBOX (cutbox-rows.mjs): the forced cells as the released guide's own fill.sh prints them over the translation 16c0cf901220c156… (all of the seat's roots in one cut). By AI agents, Wed Nov 11 2026. No macro, syntax, notation, axiom, sorry.
-/
import Derived.Test.YtekopdfnblfldaaDoorChecked
import GoSem.Claim
import GoSem.ClaimJoined
import GoSem.ClaimMapViews
import Derived.JoinedTies
import Derived.KernelRfl
namespace Go.Proofs.YtekopdfnblfldaaDoor
/- THE CELL 'sum', in the pinned program and in every row, IS THE sha256 OF THE DUMP (.gsa) THAT YtekopdfnblfldaaDoorProg.lean LOADS. Nothing in Lean hashes anything: it is a label: what it is worth is what the hold of that sum in a sandbox is worth. -/
noncomputable def Tryd.pinned : Pinned := { name := "ytekopdfnblfldaadoor", sum := "16c0cf901220c1565b345c2fee69913bfeed3b524e30ae27c4f9140e8d702a34", checked := Tryd.checked }
namespace Rows
def none {H : Type} : Left H := { results := [], args := [] }

/- WHAT THE LISTED PACKAGE-LEVEL VARIABLES READ AS WHEN THE CALL BEGINS. Each datum BY PROGRAM (the guide's laid-datum.mjs) off the statement by which the dump's own 'gosem.cut.vars' lays the variable. In a bare row this is a premise. The card (YtekopdfnblfldaaDoorCards.lean) ties it to the program's text. -/
def laid_vidimus_tern_ands {H : Type} : DataW H := .agg [.agg [.lit (.int .u8 0), .lit (.int .u8 0), .lit (.int .u8 0)], .agg [.lit (.int .u8 0), .lit (.int .u8 1), .lit (.int .u8 2)], .agg [.lit (.int .u8 0), .lit (.int .u8 2), .lit (.int .u8 2)]]

/-- 'vidimuslaw09.TernTells': WHATEVER THE INPUT: true; the input reads as it did. -/
def ternTellsSpec : ChangeSpec := { name := "ternTells", fn := fun _ => fun
  | [d1, d2] => { results := [.lit (.bool true)], args := [d1, d2] }
  | _ => none }
def ternTellsRow : OpenClaim := { program := "ytekopdfnblfldaadoor", sum := "16c0cf901220c1565b345c2fee69913bfeed3b524e30ae27c4f9140e8d702a34", func := "vidimus/vidimuslaw09.TernTells", spec := "ternTells", inPlace := ["internal/abi.NoEscape"], unfollowed := true, recurses := true, named := ["vidimus/tern.ands"], apart := false, laid := [("vidimus/tern.ands", laid_vidimus_tern_ands)] }
def TernTellsSaid : Prop := ternTellsRow.holds Tryd.pinned (OpenSpec.ofChange ternTellsSpec)

/-- ITS FALSE NEIGHBOUR: 'it returns false'. Refute it at one input. -/
def ternTellsWrong : ChangeSpec := { name := "ternTells", fn := fun _ => fun
  | [d1, d2] => { results := [.lit (.bool false)], args := [d1, d2] }
  | _ => none }
def TernTellsWrongFalsely : Prop := ternTellsRow.holds Tryd.pinned (OpenSpec.ofChange ternTellsWrong)

/-- 'vidimuslaw09.TernSteps': WHATEVER THE INPUT: true; the input reads as it did. -/
def ternStepsSpec : ChangeSpec := { name := "ternSteps", fn := fun _ => fun
  | [d] => { results := [.lit (.bool true)], args := [d] }
  | _ => none }
def ternStepsRow : OpenClaim := { program := "ytekopdfnblfldaadoor", sum := "16c0cf901220c1565b345c2fee69913bfeed3b524e30ae27c4f9140e8d702a34", func := "vidimus/vidimuslaw09.TernSteps", spec := "ternSteps", inPlace := ["internal/abi.NoEscape"], unfollowed := true, recurses := true, named := ["vidimus/tern.ands"], apart := false, laid := [("vidimus/tern.ands", laid_vidimus_tern_ands)] }
def TernStepsSaid : Prop := ternStepsRow.holds Tryd.pinned (OpenSpec.ofChange ternStepsSpec)

/-- ITS FALSE NEIGHBOUR: 'it returns false'. Refute it at one input. -/
def ternStepsWrong : ChangeSpec := { name := "ternSteps", fn := fun _ => fun
  | [d] => { results := [.lit (.bool false)], args := [d] }
  | _ => none }
def TernStepsWrongFalsely : Prop := ternStepsRow.holds Tryd.pinned (OpenSpec.ofChange ternStepsWrong)

/-- 'vidimuslaw09.TernBelow': WHATEVER THE INPUT: true; the input reads as it did. -/
def ternBelowSpec : ChangeSpec := { name := "ternBelow", fn := fun _ => fun
  | [d1, d2, d3] => { results := [.lit (.bool true)], args := [d1, d2, d3] }
  | _ => none }
def ternBelowRow : OpenClaim := { program := "ytekopdfnblfldaadoor", sum := "16c0cf901220c1565b345c2fee69913bfeed3b524e30ae27c4f9140e8d702a34", func := "vidimus/vidimuslaw09.TernBelow", spec := "ternBelow", inPlace := ["internal/abi.NoEscape"], unfollowed := true, recurses := true, named := ["vidimus/tern.ands"], apart := false, laid := [("vidimus/tern.ands", laid_vidimus_tern_ands)] }
def TernBelowSaid : Prop := ternBelowRow.holds Tryd.pinned (OpenSpec.ofChange ternBelowSpec)

/-- ITS FALSE NEIGHBOUR: 'it returns false'. Refute it at one input. -/
def ternBelowWrong : ChangeSpec := { name := "ternBelow", fn := fun _ => fun
  | [d1, d2, d3] => { results := [.lit (.bool false)], args := [d1, d2, d3] }
  | _ => none }
def TernBelowWrongFalsely : Prop := ternBelowRow.holds Tryd.pinned (OpenSpec.ofChange ternBelowWrong)

/-- 'vidimuslaw09.TernTwo': WHATEVER THE INPUT: true; the input reads as it did. -/
def ternTwoSpec : ChangeSpec := { name := "ternTwo", fn := fun _ => fun
  | [d1, d2, d3] => { results := [.lit (.bool true)], args := [d1, d2, d3] }
  | _ => none }
def ternTwoRow : OpenClaim := { program := "ytekopdfnblfldaadoor", sum := "16c0cf901220c1565b345c2fee69913bfeed3b524e30ae27c4f9140e8d702a34", func := "vidimus/vidimuslaw09.TernTwo", spec := "ternTwo", inPlace := ["internal/abi.NoEscape"], unfollowed := true, recurses := true, named := ["vidimus/tern.ands"], apart := false, laid := [("vidimus/tern.ands", laid_vidimus_tern_ands)] }
def TernTwoSaid : Prop := ternTwoRow.holds Tryd.pinned (OpenSpec.ofChange ternTwoSpec)

/-- ITS FALSE NEIGHBOUR: 'it returns false'. Refute it at one input. -/
def ternTwoWrong : ChangeSpec := { name := "ternTwo", fn := fun _ => fun
  | [d1, d2, d3] => { results := [.lit (.bool false)], args := [d1, d2, d3] }
  | _ => none }
def TernTwoWrongFalsely : Prop := ternTwoRow.holds Tryd.pinned (OpenSpec.ofChange ternTwoWrong)

/-- 'vidimuslaw09.TernOrder': WHATEVER THE INPUT: true; the input reads as it did. -/
def ternOrderSpec : ChangeSpec := { name := "ternOrder", fn := fun _ => fun
  | [d1, d2, d3] => { results := [.lit (.bool true)], args := [d1, d2, d3] }
  | _ => none }
def ternOrderRow : OpenClaim := { program := "ytekopdfnblfldaadoor", sum := "16c0cf901220c1565b345c2fee69913bfeed3b524e30ae27c4f9140e8d702a34", func := "vidimus/vidimuslaw09.TernOrder", spec := "ternOrder", inPlace := ["internal/abi.NoEscape"], unfollowed := true, recurses := true, named := ["vidimus/tern.ands"], apart := false, laid := [("vidimus/tern.ands", laid_vidimus_tern_ands)] }
def TernOrderSaid : Prop := ternOrderRow.holds Tryd.pinned (OpenSpec.ofChange ternOrderSpec)

/-- ITS FALSE NEIGHBOUR: 'it returns false'. Refute it at one input. -/
def ternOrderWrong : ChangeSpec := { name := "ternOrder", fn := fun _ => fun
  | [d1, d2, d3] => { results := [.lit (.bool false)], args := [d1, d2, d3] }
  | _ => none }
def TernOrderWrongFalsely : Prop := ternOrderRow.holds Tryd.pinned (OpenSpec.ofChange ternOrderWrong)

/-- 'vidimuslaw09.TernBelows': WHATEVER THE INPUT: true; the input reads as it did. -/
def ternBelowsSpec : ChangeSpec := { name := "ternBelows", fn := fun _ => fun
  | [d1, d2, d3] => { results := [.lit (.bool true)], args := [d1, d2, d3] }
  | _ => none }
def ternBelowsRow : OpenClaim := { program := "ytekopdfnblfldaadoor", sum := "16c0cf901220c1565b345c2fee69913bfeed3b524e30ae27c4f9140e8d702a34", func := "vidimus/vidimuslaw09.TernBelows", spec := "ternBelows", inPlace := ["internal/abi.NoEscape"], unfollowed := true, recurses := true, named := ["vidimus/tern.ands"], apart := false, laid := [("vidimus/tern.ands", laid_vidimus_tern_ands)] }
def TernBelowsSaid : Prop := ternBelowsRow.holds Tryd.pinned (OpenSpec.ofChange ternBelowsSpec)

/-- ITS FALSE NEIGHBOUR: 'it returns false'. Refute it at one input. -/
def ternBelowsWrong : ChangeSpec := { name := "ternBelows", fn := fun _ => fun
  | [d1, d2, d3] => { results := [.lit (.bool false)], args := [d1, d2, d3] }
  | _ => none }
def TernBelowsWrongFalsely : Prop := ternBelowsRow.holds Tryd.pinned (OpenSpec.ofChange ternBelowsWrong)

/-- 'vidimuslaw09.TernExact': WHATEVER THE INPUT: true; the input reads as it did. -/
def ternExactSpec : ChangeSpec := { name := "ternExact", fn := fun _ => fun
  | [d] => { results := [.lit (.bool true)], args := [d] }
  | _ => none }
def ternExactRow : OpenClaim := { program := "ytekopdfnblfldaadoor", sum := "16c0cf901220c1565b345c2fee69913bfeed3b524e30ae27c4f9140e8d702a34", func := "vidimus/vidimuslaw09.TernExact", spec := "ternExact", inPlace := ["internal/abi.NoEscape"], unfollowed := true, recurses := true, named := ["vidimus/tern.ands"], apart := false, laid := [("vidimus/tern.ands", laid_vidimus_tern_ands)] }
def TernExactSaid : Prop := ternExactRow.holds Tryd.pinned (OpenSpec.ofChange ternExactSpec)

/-- ITS FALSE NEIGHBOUR: 'it returns false'. Refute it at one input. -/
def ternExactWrong : ChangeSpec := { name := "ternExact", fn := fun _ => fun
  | [d] => { results := [.lit (.bool false)], args := [d] }
  | _ => none }
def TernExactWrongFalsely : Prop := ternExactRow.holds Tryd.pinned (OpenSpec.ofChange ternExactWrong)

/- THE SECOND FORM. 'bulk': how many values and letters a reading holds, each counted each time it is reached (what is shared counts as often as it is met; a slice's spare places count too). A statement '..UptoSaid' is the law's where the arguments, and the package variables that the reading takes, are together of bulk at most 1048576: NARROWER than '..Said'. Prove '..Said' where nothing that the law and all that it calls make is longer than what came in: it says more and counts as full. Else prove '..UptoSaid'. A law counts once. -/
mutual
def uptoBulk {H : Type} : DataW H → Nat
  | .lit (.string bytes) => bytes.length + 1
  | .lit _ => 1
  | .nil => 1
  | .ptr d => uptoBulk d + 1
  | .slice elems spare => uptoBulkAll elems + uptoBulkAll spare + 1
  | .agg parts => uptoBulkAll parts + 1
  | .iface _ d => uptoBulk d + 1
  | .map entries => uptoBulkEntries entries + 1
  | .held _ => 1
def uptoBulkAll {H : Type} : List (DataW H) → Nat
  | [] => 0
  | d :: r => uptoBulk d + uptoBulkAll r
def uptoBulkEntries {H : Type} : List (Lit × DataW H) → Nat
  | [] => 0
  | x :: r => uptoBulkEntry x + uptoBulkEntries r
def uptoBulkEntry {H : Type} : Lit × DataW H → Nat
  | (.string bytes, d) => bytes.length + uptoBulk d + 1
  | (_, d) => uptoBulk d + 1
 end
def uptoSmall : (H : Type) → List (DataW H) → Bool := fun _ ds => decide (uptoBulkAll ds ≤ 1048576)
def OpenSpec.upto (s : _root_.Go.ChangeSpec) : _root_.Go.OpenSpec := { _root_.Go.OpenSpec.ofChange s with cond := some uptoSmall }

/-- 'vidimuslaw09.TernTells', WHERE WHAT IT READS IS OF BULK AT MOST 1048576: true; the input reads as it did. -/
def ternTellsUptoRow : OpenClaim := { program := "ytekopdfnblfldaadoor", sum := "16c0cf901220c1565b345c2fee69913bfeed3b524e30ae27c4f9140e8d702a34", func := "vidimus/vidimuslaw09.TernTells", spec := "ternTells", inPlace := ["internal/abi.NoEscape"], unfollowed := true, recurses := true, named := ["vidimus/tern.ands"], apart := false, laid := [("vidimus/tern.ands", laid_vidimus_tern_ands)], narrowed := true }
def TernTellsUptoSaid : Prop := ternTellsUptoRow.holds Tryd.pinned (OpenSpec.upto ternTellsSpec)

/-- 'vidimuslaw09.TernSteps', WHERE WHAT IT READS IS OF BULK AT MOST 1048576: true; the input reads as it did. -/
def ternStepsUptoRow : OpenClaim := { program := "ytekopdfnblfldaadoor", sum := "16c0cf901220c1565b345c2fee69913bfeed3b524e30ae27c4f9140e8d702a34", func := "vidimus/vidimuslaw09.TernSteps", spec := "ternSteps", inPlace := ["internal/abi.NoEscape"], unfollowed := true, recurses := true, named := ["vidimus/tern.ands"], apart := false, laid := [("vidimus/tern.ands", laid_vidimus_tern_ands)], narrowed := true }
def TernStepsUptoSaid : Prop := ternStepsUptoRow.holds Tryd.pinned (OpenSpec.upto ternStepsSpec)

/-- 'vidimuslaw09.TernBelow', WHERE WHAT IT READS IS OF BULK AT MOST 1048576: true; the input reads as it did. -/
def ternBelowUptoRow : OpenClaim := { program := "ytekopdfnblfldaadoor", sum := "16c0cf901220c1565b345c2fee69913bfeed3b524e30ae27c4f9140e8d702a34", func := "vidimus/vidimuslaw09.TernBelow", spec := "ternBelow", inPlace := ["internal/abi.NoEscape"], unfollowed := true, recurses := true, named := ["vidimus/tern.ands"], apart := false, laid := [("vidimus/tern.ands", laid_vidimus_tern_ands)], narrowed := true }
def TernBelowUptoSaid : Prop := ternBelowUptoRow.holds Tryd.pinned (OpenSpec.upto ternBelowSpec)

/-- 'vidimuslaw09.TernTwo', WHERE WHAT IT READS IS OF BULK AT MOST 1048576: true; the input reads as it did. -/
def ternTwoUptoRow : OpenClaim := { program := "ytekopdfnblfldaadoor", sum := "16c0cf901220c1565b345c2fee69913bfeed3b524e30ae27c4f9140e8d702a34", func := "vidimus/vidimuslaw09.TernTwo", spec := "ternTwo", inPlace := ["internal/abi.NoEscape"], unfollowed := true, recurses := true, named := ["vidimus/tern.ands"], apart := false, laid := [("vidimus/tern.ands", laid_vidimus_tern_ands)], narrowed := true }
def TernTwoUptoSaid : Prop := ternTwoUptoRow.holds Tryd.pinned (OpenSpec.upto ternTwoSpec)

/-- 'vidimuslaw09.TernOrder', WHERE WHAT IT READS IS OF BULK AT MOST 1048576: true; the input reads as it did. -/
def ternOrderUptoRow : OpenClaim := { program := "ytekopdfnblfldaadoor", sum := "16c0cf901220c1565b345c2fee69913bfeed3b524e30ae27c4f9140e8d702a34", func := "vidimus/vidimuslaw09.TernOrder", spec := "ternOrder", inPlace := ["internal/abi.NoEscape"], unfollowed := true, recurses := true, named := ["vidimus/tern.ands"], apart := false, laid := [("vidimus/tern.ands", laid_vidimus_tern_ands)], narrowed := true }
def TernOrderUptoSaid : Prop := ternOrderUptoRow.holds Tryd.pinned (OpenSpec.upto ternOrderSpec)

/-- 'vidimuslaw09.TernBelows', WHERE WHAT IT READS IS OF BULK AT MOST 1048576: true; the input reads as it did. -/
def ternBelowsUptoRow : OpenClaim := { program := "ytekopdfnblfldaadoor", sum := "16c0cf901220c1565b345c2fee69913bfeed3b524e30ae27c4f9140e8d702a34", func := "vidimus/vidimuslaw09.TernBelows", spec := "ternBelows", inPlace := ["internal/abi.NoEscape"], unfollowed := true, recurses := true, named := ["vidimus/tern.ands"], apart := false, laid := [("vidimus/tern.ands", laid_vidimus_tern_ands)], narrowed := true }
def TernBelowsUptoSaid : Prop := ternBelowsUptoRow.holds Tryd.pinned (OpenSpec.upto ternBelowsSpec)

/-- 'vidimuslaw09.TernExact', WHERE WHAT IT READS IS OF BULK AT MOST 1048576: true; the input reads as it did. -/
def ternExactUptoRow : OpenClaim := { program := "ytekopdfnblfldaadoor", sum := "16c0cf901220c1565b345c2fee69913bfeed3b524e30ae27c4f9140e8d702a34", func := "vidimus/vidimuslaw09.TernExact", spec := "ternExact", inPlace := ["internal/abi.NoEscape"], unfollowed := true, recurses := true, named := ["vidimus/tern.ands"], apart := false, laid := [("vidimus/tern.ands", laid_vidimus_tern_ands)], narrowed := true }
def TernExactUptoSaid : Prop := ternExactUptoRow.holds Tryd.pinned (OpenSpec.upto ternExactSpec)

end Rows
end Go.Proofs.YtekopdfnblfldaaDoor
