/-
  NARROWER THAN 'FOR EVERY INPUT', by the rows' own cells (each row's printed sentence says how): CnfTells: laid · CnfModels: laid · CnfBack: laid · CnfHolds: laid · CnfApart: laid · CnfEnds: laid · CnfTurned: laid · DrupTells: laid · DrupChecks: laid · DrupSound: laid · DrupBack: laid · DrupApart: laid.
  DERIVED. THE GIVEN ROWS OF THIS SEAT. 12 by the template 'for every input the law returns true; each argument reads behind the call as it read before'; 0 by the template 'total and deterministic' (their statements: YtplcabecbofjpaaDoorTotals.lean).
  GIVEN WITH THE SEED: the statements are not yours to turn. If you find one false, say at which input.
  Laid BY PROGRAM, IN A SANDBOX (cutbox-rows.mjs): the forced cells as the released guide's own fill.sh prints them over the translation e2da0c74f1837bb0… (all of the seat's roots in one cut). By AI agents, Wed Nov 11 2026. No macro, syntax, notation, axiom, sorry.
-/
import Derived.Test.YtplcabecbofjpaaDoorChecked
import GoSem.Claim
import GoSem.ClaimJoined
import GoSem.ClaimMapViews
import Derived.JoinedTies
import Derived.KernelRfl
namespace Go.Proofs.YtplcabecbofjpaaDoor
/- THE CELL 'sum', in the pinned program and in every row, IS THE sha256 OF THE DUMP (.gsa) THAT YtplcabecbofjpaaDoorProg.lean LOADS. Nothing in Lean hashes anything: it is a label: what it is worth is what the hold of that sum in a sandbox is worth. -/
noncomputable def Tryd.pinned : Pinned := { name := "ytplcabecbofjpaadoor", sum := "e2da0c74f1837bb06b502334cb23963fc8449927b026f7217677a3ac9a122cf1", checked := Tryd.checked }
namespace Rows
def none {H : Type} : Left H := { results := [], args := [] }

/- WHAT THE LISTED PACKAGE-LEVEL VARIABLES READ AS WHEN THE CALL BEGINS. Each datum BY PROGRAM (the guide's laid-datum.mjs) off the statement by which the dump's own 'gosem.cut.vars' lays the variable. In a bare row this is a premise. The card (YtplcabecbofjpaaDoorCards.lean) ties it to the program's text. -/
def laid_math_bits_deBruijn32tab {H : Type} : DataW H := .agg [.lit (.int .u8 0), .lit (.int .u8 1), .lit (.int .u8 28), .lit (.int .u8 2), .lit (.int .u8 29), .lit (.int .u8 14), .lit (.int .u8 24), .lit (.int .u8 3), .lit (.int .u8 30), .lit (.int .u8 22), .lit (.int .u8 20), .lit (.int .u8 15), .lit (.int .u8 25), .lit (.int .u8 17), .lit (.int .u8 4), .lit (.int .u8 8), .lit (.int .u8 31), .lit (.int .u8 27), .lit (.int .u8 13), .lit (.int .u8 23), .lit (.int .u8 21), .lit (.int .u8 19), .lit (.int .u8 16), .lit (.int .u8 7), .lit (.int .u8 26), .lit (.int .u8 12), .lit (.int .u8 18), .lit (.int .u8 6), .lit (.int .u8 11), .lit (.int .u8 5), .lit (.int .u8 10), .lit (.int .u8 9)]
def laid_math_bits_deBruijn64tab {H : Type} : DataW H := .agg [.lit (.int .u8 0), .lit (.int .u8 1), .lit (.int .u8 56), .lit (.int .u8 2), .lit (.int .u8 57), .lit (.int .u8 49), .lit (.int .u8 28), .lit (.int .u8 3), .lit (.int .u8 61), .lit (.int .u8 58), .lit (.int .u8 42), .lit (.int .u8 50), .lit (.int .u8 38), .lit (.int .u8 29), .lit (.int .u8 17), .lit (.int .u8 4), .lit (.int .u8 62), .lit (.int .u8 47), .lit (.int .u8 59), .lit (.int .u8 36), .lit (.int .u8 45), .lit (.int .u8 43), .lit (.int .u8 51), .lit (.int .u8 22), .lit (.int .u8 53), .lit (.int .u8 39), .lit (.int .u8 33), .lit (.int .u8 30), .lit (.int .u8 24), .lit (.int .u8 18), .lit (.int .u8 12), .lit (.int .u8 5), .lit (.int .u8 63), .lit (.int .u8 55), .lit (.int .u8 48), .lit (.int .u8 27), .lit (.int .u8 60), .lit (.int .u8 41), .lit (.int .u8 37), .lit (.int .u8 16), .lit (.int .u8 46), .lit (.int .u8 35), .lit (.int .u8 44), .lit (.int .u8 21), .lit (.int .u8 52), .lit (.int .u8 32), .lit (.int .u8 23), .lit (.int .u8 11), .lit (.int .u8 54), .lit (.int .u8 26), .lit (.int .u8 40), .lit (.int .u8 15), .lit (.int .u8 34), .lit (.int .u8 20), .lit (.int .u8 31), .lit (.int .u8 10), .lit (.int .u8 25), .lit (.int .u8 14), .lit (.int .u8 19), .lit (.int .u8 9), .lit (.int .u8 13), .lit (.int .u8 8), .lit (.int .u8 7), .lit (.int .u8 6)]
def laid_internal_strconv_uint64pow10 {H : Type} : DataW H := .agg [.lit (.int .u64 1), .lit (.int .u64 10), .lit (.int .u64 100), .lit (.int .u64 1000), .lit (.int .u64 10000), .lit (.int .u64 100000), .lit (.int .u64 1000000), .lit (.int .u64 10000000), .lit (.int .u64 100000000), .lit (.int .u64 1000000000), .lit (.int .u64 10000000000), .lit (.int .u64 100000000000), .lit (.int .u64 1000000000000), .lit (.int .u64 10000000000000), .lit (.int .u64 100000000000000), .lit (.int .u64 1000000000000000), .lit (.int .u64 10000000000000000), .lit (.int .u64 100000000000000000), .lit (.int .u64 1000000000000000000), .lit (.int .u64 10000000000000000000)]

/-- 'vidimuslaw03.CnfTells': WHATEVER THE INPUT: true; the input reads as it did. -/
def cnfTellsSpec : ChangeSpec := { name := "cnfTells", fn := fun _ => fun
  | [d1, d2, d3] => { results := [.lit (.bool true)], args := [d1, d2, d3] }
  | _ => none }
def cnfTellsRow : OpenClaim := { program := "ytplcabecbofjpaadoor", sum := "e2da0c74f1837bb06b502334cb23963fc8449927b026f7217677a3ac9a122cf1", func := "vidimus/vidimuslaw03.CnfTells", spec := "cnfTells", inPlace := ["internal/abi.NoEscape"], unfollowed := true, recurses := true, named := ["internal/strconv.uint64pow10", "math/bits.deBruijn32tab", "math/bits.deBruijn64tab"], apart := false, laid := [("math/bits.deBruijn32tab", laid_math_bits_deBruijn32tab), ("math/bits.deBruijn64tab", laid_math_bits_deBruijn64tab), ("internal/strconv.uint64pow10", laid_internal_strconv_uint64pow10)] }
def CnfTellsSaid : Prop := cnfTellsRow.holds Tryd.pinned (OpenSpec.ofChange cnfTellsSpec)

/-- ITS FALSE NEIGHBOUR: 'it returns false'. Refute it at one input. -/
def cnfTellsWrong : ChangeSpec := { name := "cnfTells", fn := fun _ => fun
  | [d1, d2, d3] => { results := [.lit (.bool false)], args := [d1, d2, d3] }
  | _ => none }
def CnfTellsWrongFalsely : Prop := cnfTellsRow.holds Tryd.pinned (OpenSpec.ofChange cnfTellsWrong)

/-- 'vidimuslaw03.CnfModels': WHATEVER THE INPUT: true; the input reads as it did. -/
def cnfModelsSpec : ChangeSpec := { name := "cnfModels", fn := fun _ => fun
  | [d] => { results := [.lit (.bool true)], args := [d] }
  | _ => none }
def cnfModelsRow : OpenClaim := { program := "ytplcabecbofjpaadoor", sum := "e2da0c74f1837bb06b502334cb23963fc8449927b026f7217677a3ac9a122cf1", func := "vidimus/vidimuslaw03.CnfModels", spec := "cnfModels", inPlace := ["internal/abi.NoEscape"], unfollowed := true, recurses := true, named := ["internal/strconv.uint64pow10", "math/bits.deBruijn32tab", "math/bits.deBruijn64tab"], apart := false, laid := [("math/bits.deBruijn32tab", laid_math_bits_deBruijn32tab), ("math/bits.deBruijn64tab", laid_math_bits_deBruijn64tab), ("internal/strconv.uint64pow10", laid_internal_strconv_uint64pow10)] }
def CnfModelsSaid : Prop := cnfModelsRow.holds Tryd.pinned (OpenSpec.ofChange cnfModelsSpec)

/-- ITS FALSE NEIGHBOUR: 'it returns false'. Refute it at one input. -/
def cnfModelsWrong : ChangeSpec := { name := "cnfModels", fn := fun _ => fun
  | [d] => { results := [.lit (.bool false)], args := [d] }
  | _ => none }
def CnfModelsWrongFalsely : Prop := cnfModelsRow.holds Tryd.pinned (OpenSpec.ofChange cnfModelsWrong)

/-- 'vidimuslaw03.CnfBack': WHATEVER THE INPUT: true; the input reads as it did. -/
def cnfBackSpec : ChangeSpec := { name := "cnfBack", fn := fun _ => fun
  | [d1, d2, d3] => { results := [.lit (.bool true)], args := [d1, d2, d3] }
  | _ => none }
def cnfBackRow : OpenClaim := { program := "ytplcabecbofjpaadoor", sum := "e2da0c74f1837bb06b502334cb23963fc8449927b026f7217677a3ac9a122cf1", func := "vidimus/vidimuslaw03.CnfBack", spec := "cnfBack", inPlace := ["internal/abi.NoEscape"], unfollowed := true, recurses := true, named := ["internal/strconv.uint64pow10", "math/bits.deBruijn32tab", "math/bits.deBruijn64tab"], apart := false, laid := [("math/bits.deBruijn32tab", laid_math_bits_deBruijn32tab), ("math/bits.deBruijn64tab", laid_math_bits_deBruijn64tab), ("internal/strconv.uint64pow10", laid_internal_strconv_uint64pow10)] }
def CnfBackSaid : Prop := cnfBackRow.holds Tryd.pinned (OpenSpec.ofChange cnfBackSpec)

/-- ITS FALSE NEIGHBOUR: 'it returns false'. Refute it at one input. -/
def cnfBackWrong : ChangeSpec := { name := "cnfBack", fn := fun _ => fun
  | [d1, d2, d3] => { results := [.lit (.bool false)], args := [d1, d2, d3] }
  | _ => none }
def CnfBackWrongFalsely : Prop := cnfBackRow.holds Tryd.pinned (OpenSpec.ofChange cnfBackWrong)

/-- 'vidimuslaw03.CnfHolds': WHATEVER THE INPUT: true; the input reads as it did. -/
def cnfHoldsSpec : ChangeSpec := { name := "cnfHolds", fn := fun _ => fun
  | [d] => { results := [.lit (.bool true)], args := [d] }
  | _ => none }
def cnfHoldsRow : OpenClaim := { program := "ytplcabecbofjpaadoor", sum := "e2da0c74f1837bb06b502334cb23963fc8449927b026f7217677a3ac9a122cf1", func := "vidimus/vidimuslaw03.CnfHolds", spec := "cnfHolds", inPlace := ["internal/abi.NoEscape"], unfollowed := true, recurses := true, named := ["internal/strconv.uint64pow10", "math/bits.deBruijn32tab", "math/bits.deBruijn64tab"], apart := false, laid := [("math/bits.deBruijn32tab", laid_math_bits_deBruijn32tab), ("math/bits.deBruijn64tab", laid_math_bits_deBruijn64tab), ("internal/strconv.uint64pow10", laid_internal_strconv_uint64pow10)] }
def CnfHoldsSaid : Prop := cnfHoldsRow.holds Tryd.pinned (OpenSpec.ofChange cnfHoldsSpec)

/-- ITS FALSE NEIGHBOUR: 'it returns false'. Refute it at one input. -/
def cnfHoldsWrong : ChangeSpec := { name := "cnfHolds", fn := fun _ => fun
  | [d] => { results := [.lit (.bool false)], args := [d] }
  | _ => none }
def CnfHoldsWrongFalsely : Prop := cnfHoldsRow.holds Tryd.pinned (OpenSpec.ofChange cnfHoldsWrong)

/-- 'vidimuslaw03.CnfApart': WHATEVER THE INPUT: true; the input reads as it did. -/
def cnfApartSpec : ChangeSpec := { name := "cnfApart", fn := fun _ => fun
  | [d] => { results := [.lit (.bool true)], args := [d] }
  | _ => none }
def cnfApartRow : OpenClaim := { program := "ytplcabecbofjpaadoor", sum := "e2da0c74f1837bb06b502334cb23963fc8449927b026f7217677a3ac9a122cf1", func := "vidimus/vidimuslaw03.CnfApart", spec := "cnfApart", inPlace := ["internal/abi.NoEscape"], unfollowed := true, recurses := true, named := ["internal/strconv.uint64pow10", "math/bits.deBruijn32tab", "math/bits.deBruijn64tab"], apart := false, laid := [("math/bits.deBruijn32tab", laid_math_bits_deBruijn32tab), ("math/bits.deBruijn64tab", laid_math_bits_deBruijn64tab), ("internal/strconv.uint64pow10", laid_internal_strconv_uint64pow10)] }
def CnfApartSaid : Prop := cnfApartRow.holds Tryd.pinned (OpenSpec.ofChange cnfApartSpec)

/-- ITS FALSE NEIGHBOUR: 'it returns false'. Refute it at one input. -/
def cnfApartWrong : ChangeSpec := { name := "cnfApart", fn := fun _ => fun
  | [d] => { results := [.lit (.bool false)], args := [d] }
  | _ => none }
def CnfApartWrongFalsely : Prop := cnfApartRow.holds Tryd.pinned (OpenSpec.ofChange cnfApartWrong)

/-- 'vidimuslaw03.CnfEnds': WHATEVER THE INPUT: true; the input reads as it did. -/
def cnfEndsSpec : ChangeSpec := { name := "cnfEnds", fn := fun _ => fun
  | [d1, d2, d3] => { results := [.lit (.bool true)], args := [d1, d2, d3] }
  | _ => none }
def cnfEndsRow : OpenClaim := { program := "ytplcabecbofjpaadoor", sum := "e2da0c74f1837bb06b502334cb23963fc8449927b026f7217677a3ac9a122cf1", func := "vidimus/vidimuslaw03.CnfEnds", spec := "cnfEnds", inPlace := ["internal/abi.NoEscape"], unfollowed := true, recurses := true, named := ["internal/strconv.uint64pow10", "math/bits.deBruijn32tab", "math/bits.deBruijn64tab"], apart := false, laid := [("math/bits.deBruijn32tab", laid_math_bits_deBruijn32tab), ("math/bits.deBruijn64tab", laid_math_bits_deBruijn64tab), ("internal/strconv.uint64pow10", laid_internal_strconv_uint64pow10)] }
def CnfEndsSaid : Prop := cnfEndsRow.holds Tryd.pinned (OpenSpec.ofChange cnfEndsSpec)

/-- ITS FALSE NEIGHBOUR: 'it returns false'. Refute it at one input. -/
def cnfEndsWrong : ChangeSpec := { name := "cnfEnds", fn := fun _ => fun
  | [d1, d2, d3] => { results := [.lit (.bool false)], args := [d1, d2, d3] }
  | _ => none }
def CnfEndsWrongFalsely : Prop := cnfEndsRow.holds Tryd.pinned (OpenSpec.ofChange cnfEndsWrong)

/-- 'vidimuslaw03.CnfTurned': WHATEVER THE INPUT: true; the input reads as it did. -/
def cnfTurnedSpec : ChangeSpec := { name := "cnfTurned", fn := fun _ => fun
  | [d1, d2] => { results := [.lit (.bool true)], args := [d1, d2] }
  | _ => none }
def cnfTurnedRow : OpenClaim := { program := "ytplcabecbofjpaadoor", sum := "e2da0c74f1837bb06b502334cb23963fc8449927b026f7217677a3ac9a122cf1", func := "vidimus/vidimuslaw03.CnfTurned", spec := "cnfTurned", inPlace := ["internal/abi.NoEscape"], unfollowed := true, recurses := true, named := ["internal/strconv.uint64pow10", "math/bits.deBruijn32tab", "math/bits.deBruijn64tab"], apart := false, laid := [("math/bits.deBruijn32tab", laid_math_bits_deBruijn32tab), ("math/bits.deBruijn64tab", laid_math_bits_deBruijn64tab), ("internal/strconv.uint64pow10", laid_internal_strconv_uint64pow10)] }
def CnfTurnedSaid : Prop := cnfTurnedRow.holds Tryd.pinned (OpenSpec.ofChange cnfTurnedSpec)

/-- ITS FALSE NEIGHBOUR: 'it returns false'. Refute it at one input. -/
def cnfTurnedWrong : ChangeSpec := { name := "cnfTurned", fn := fun _ => fun
  | [d1, d2] => { results := [.lit (.bool false)], args := [d1, d2] }
  | _ => none }
def CnfTurnedWrongFalsely : Prop := cnfTurnedRow.holds Tryd.pinned (OpenSpec.ofChange cnfTurnedWrong)

/-- 'vidimuslaw05.DrupTells': WHATEVER THE INPUT: true; the input reads as it did. -/
def drupTellsSpec : ChangeSpec := { name := "drupTells", fn := fun _ => fun
  | [d] => { results := [.lit (.bool true)], args := [d] }
  | _ => none }
def drupTellsRow : OpenClaim := { program := "ytplcabecbofjpaadoor", sum := "e2da0c74f1837bb06b502334cb23963fc8449927b026f7217677a3ac9a122cf1", func := "vidimus/vidimuslaw05.DrupTells", spec := "drupTells", inPlace := ["internal/abi.NoEscape"], unfollowed := true, recurses := true, named := ["internal/strconv.uint64pow10", "math/bits.deBruijn32tab", "math/bits.deBruijn64tab"], apart := false, laid := [("math/bits.deBruijn32tab", laid_math_bits_deBruijn32tab), ("math/bits.deBruijn64tab", laid_math_bits_deBruijn64tab), ("internal/strconv.uint64pow10", laid_internal_strconv_uint64pow10)] }
def DrupTellsSaid : Prop := drupTellsRow.holds Tryd.pinned (OpenSpec.ofChange drupTellsSpec)

/-- ITS FALSE NEIGHBOUR: 'it returns false'. Refute it at one input. -/
def drupTellsWrong : ChangeSpec := { name := "drupTells", fn := fun _ => fun
  | [d] => { results := [.lit (.bool false)], args := [d] }
  | _ => none }
def DrupTellsWrongFalsely : Prop := drupTellsRow.holds Tryd.pinned (OpenSpec.ofChange drupTellsWrong)

/-- 'vidimuslaw05.DrupChecks': WHATEVER THE INPUT: true; the input reads as it did. -/
def drupChecksSpec : ChangeSpec := { name := "drupChecks", fn := fun _ => fun
  | [d1, d2] => { results := [.lit (.bool true)], args := [d1, d2] }
  | _ => none }
def drupChecksRow : OpenClaim := { program := "ytplcabecbofjpaadoor", sum := "e2da0c74f1837bb06b502334cb23963fc8449927b026f7217677a3ac9a122cf1", func := "vidimus/vidimuslaw05.DrupChecks", spec := "drupChecks", inPlace := ["internal/abi.NoEscape"], unfollowed := true, recurses := true, named := ["internal/strconv.uint64pow10", "math/bits.deBruijn32tab", "math/bits.deBruijn64tab"], apart := false, laid := [("math/bits.deBruijn32tab", laid_math_bits_deBruijn32tab), ("math/bits.deBruijn64tab", laid_math_bits_deBruijn64tab), ("internal/strconv.uint64pow10", laid_internal_strconv_uint64pow10)] }
def DrupChecksSaid : Prop := drupChecksRow.holds Tryd.pinned (OpenSpec.ofChange drupChecksSpec)

/-- ITS FALSE NEIGHBOUR: 'it returns false'. Refute it at one input. -/
def drupChecksWrong : ChangeSpec := { name := "drupChecks", fn := fun _ => fun
  | [d1, d2] => { results := [.lit (.bool false)], args := [d1, d2] }
  | _ => none }
def DrupChecksWrongFalsely : Prop := drupChecksRow.holds Tryd.pinned (OpenSpec.ofChange drupChecksWrong)

/-- 'vidimuslaw05.DrupSound': WHATEVER THE INPUT: true; the input reads as it did. -/
def drupSoundSpec : ChangeSpec := { name := "drupSound", fn := fun _ => fun
  | [d1, d2, d3] => { results := [.lit (.bool true)], args := [d1, d2, d3] }
  | _ => none }
def drupSoundRow : OpenClaim := { program := "ytplcabecbofjpaadoor", sum := "e2da0c74f1837bb06b502334cb23963fc8449927b026f7217677a3ac9a122cf1", func := "vidimus/vidimuslaw05.DrupSound", spec := "drupSound", inPlace := ["internal/abi.NoEscape"], unfollowed := true, recurses := true, named := ["internal/strconv.uint64pow10", "math/bits.deBruijn32tab", "math/bits.deBruijn64tab"], apart := false, laid := [("math/bits.deBruijn32tab", laid_math_bits_deBruijn32tab), ("math/bits.deBruijn64tab", laid_math_bits_deBruijn64tab), ("internal/strconv.uint64pow10", laid_internal_strconv_uint64pow10)] }
def DrupSoundSaid : Prop := drupSoundRow.holds Tryd.pinned (OpenSpec.ofChange drupSoundSpec)

/-- ITS FALSE NEIGHBOUR: 'it returns false'. Refute it at one input. -/
def drupSoundWrong : ChangeSpec := { name := "drupSound", fn := fun _ => fun
  | [d1, d2, d3] => { results := [.lit (.bool false)], args := [d1, d2, d3] }
  | _ => none }
def DrupSoundWrongFalsely : Prop := drupSoundRow.holds Tryd.pinned (OpenSpec.ofChange drupSoundWrong)

/-- 'vidimuslaw05.DrupBack': WHATEVER THE INPUT: true; the input reads as it did. -/
def drupBackSpec : ChangeSpec := { name := "drupBack", fn := fun _ => fun
  | [d1, d2, d3] => { results := [.lit (.bool true)], args := [d1, d2, d3] }
  | _ => none }
def drupBackRow : OpenClaim := { program := "ytplcabecbofjpaadoor", sum := "e2da0c74f1837bb06b502334cb23963fc8449927b026f7217677a3ac9a122cf1", func := "vidimus/vidimuslaw05.DrupBack", spec := "drupBack", inPlace := ["internal/abi.NoEscape"], unfollowed := true, recurses := true, named := ["internal/strconv.uint64pow10", "math/bits.deBruijn32tab", "math/bits.deBruijn64tab"], apart := false, laid := [("math/bits.deBruijn32tab", laid_math_bits_deBruijn32tab), ("math/bits.deBruijn64tab", laid_math_bits_deBruijn64tab), ("internal/strconv.uint64pow10", laid_internal_strconv_uint64pow10)] }
def DrupBackSaid : Prop := drupBackRow.holds Tryd.pinned (OpenSpec.ofChange drupBackSpec)

/-- ITS FALSE NEIGHBOUR: 'it returns false'. Refute it at one input. -/
def drupBackWrong : ChangeSpec := { name := "drupBack", fn := fun _ => fun
  | [d1, d2, d3] => { results := [.lit (.bool false)], args := [d1, d2, d3] }
  | _ => none }
def DrupBackWrongFalsely : Prop := drupBackRow.holds Tryd.pinned (OpenSpec.ofChange drupBackWrong)

/-- 'vidimuslaw05.DrupApart': WHATEVER THE INPUT: true; the input reads as it did. -/
def drupApartSpec : ChangeSpec := { name := "drupApart", fn := fun _ => fun
  | [d] => { results := [.lit (.bool true)], args := [d] }
  | _ => none }
def drupApartRow : OpenClaim := { program := "ytplcabecbofjpaadoor", sum := "e2da0c74f1837bb06b502334cb23963fc8449927b026f7217677a3ac9a122cf1", func := "vidimus/vidimuslaw05.DrupApart", spec := "drupApart", inPlace := ["internal/abi.NoEscape"], unfollowed := true, recurses := true, named := ["internal/strconv.uint64pow10", "math/bits.deBruijn32tab", "math/bits.deBruijn64tab"], apart := false, laid := [("math/bits.deBruijn32tab", laid_math_bits_deBruijn32tab), ("math/bits.deBruijn64tab", laid_math_bits_deBruijn64tab), ("internal/strconv.uint64pow10", laid_internal_strconv_uint64pow10)] }
def DrupApartSaid : Prop := drupApartRow.holds Tryd.pinned (OpenSpec.ofChange drupApartSpec)

/-- ITS FALSE NEIGHBOUR: 'it returns false'. Refute it at one input. -/
def drupApartWrong : ChangeSpec := { name := "drupApart", fn := fun _ => fun
  | [d] => { results := [.lit (.bool false)], args := [d] }
  | _ => none }
def DrupApartWrongFalsely : Prop := drupApartRow.holds Tryd.pinned (OpenSpec.ofChange drupApartWrong)

/- THE SECOND FORM. 'bulk': how many values and letters a reading holds, each counted each time it is reached (what is shared counts as often as it is met; a slice's spare places count too). A statement '..UptoSaid' is the law's where the arguments, and the package variables that the reading takes, are together of bulk at most 1048576: NARROWER than '..Said'. Prove '..Said' where nothing that the law and all that it calls make is longer than what came in: it says more and counts as full. Else prove '..UptoSaid'. A law counts once. -/
mutual
def uptoBulk {H : Type} : DataW H → Nat
  | .lit (.string bytes) => bytes.length + 1
  | .lit _ => 1
  | .nil => 1
  | .ptr d => uptoBulk d + 1
  | .slice elems spare => uptoBulkAll elems + uptoBulkAll spare + 1
  | .agg parts => uptoBulkAll parts + 1
  | .iface _ d => uptoBulk d + 1
  | .map entries => uptoBulkEntries entries + 1
  | .held _ => 1
def uptoBulkAll {H : Type} : List (DataW H) → Nat
  | [] => 0
  | d :: r => uptoBulk d + uptoBulkAll r
def uptoBulkEntries {H : Type} : List (Lit × DataW H) → Nat
  | [] => 0
  | x :: r => uptoBulkEntry x + uptoBulkEntries r
def uptoBulkEntry {H : Type} : Lit × DataW H → Nat
  | (.string bytes, d) => bytes.length + uptoBulk d + 1
  | (_, d) => uptoBulk d + 1
 end
def uptoSmall : (H : Type) → List (DataW H) → Bool := fun _ ds => decide (uptoBulkAll ds ≤ 1048576)
def OpenSpec.upto (s : _root_.Go.ChangeSpec) : _root_.Go.OpenSpec := { _root_.Go.OpenSpec.ofChange s with cond := some uptoSmall }

/-- 'vidimuslaw03.CnfTells', WHERE WHAT IT READS IS OF BULK AT MOST 1048576: true; the input reads as it did. -/
def cnfTellsUptoRow : OpenClaim := { program := "ytplcabecbofjpaadoor", sum := "e2da0c74f1837bb06b502334cb23963fc8449927b026f7217677a3ac9a122cf1", func := "vidimus/vidimuslaw03.CnfTells", spec := "cnfTells", inPlace := ["internal/abi.NoEscape"], unfollowed := true, recurses := true, named := ["internal/strconv.uint64pow10", "math/bits.deBruijn32tab", "math/bits.deBruijn64tab"], apart := false, laid := [("math/bits.deBruijn32tab", laid_math_bits_deBruijn32tab), ("math/bits.deBruijn64tab", laid_math_bits_deBruijn64tab), ("internal/strconv.uint64pow10", laid_internal_strconv_uint64pow10)], narrowed := true }
def CnfTellsUptoSaid : Prop := cnfTellsUptoRow.holds Tryd.pinned (OpenSpec.upto cnfTellsSpec)

/-- 'vidimuslaw03.CnfModels', WHERE WHAT IT READS IS OF BULK AT MOST 1048576: true; the input reads as it did. -/
def cnfModelsUptoRow : OpenClaim := { program := "ytplcabecbofjpaadoor", sum := "e2da0c74f1837bb06b502334cb23963fc8449927b026f7217677a3ac9a122cf1", func := "vidimus/vidimuslaw03.CnfModels", spec := "cnfModels", inPlace := ["internal/abi.NoEscape"], unfollowed := true, recurses := true, named := ["internal/strconv.uint64pow10", "math/bits.deBruijn32tab", "math/bits.deBruijn64tab"], apart := false, laid := [("math/bits.deBruijn32tab", laid_math_bits_deBruijn32tab), ("math/bits.deBruijn64tab", laid_math_bits_deBruijn64tab), ("internal/strconv.uint64pow10", laid_internal_strconv_uint64pow10)], narrowed := true }
def CnfModelsUptoSaid : Prop := cnfModelsUptoRow.holds Tryd.pinned (OpenSpec.upto cnfModelsSpec)

/-- 'vidimuslaw03.CnfBack', WHERE WHAT IT READS IS OF BULK AT MOST 1048576: true; the input reads as it did. -/
def cnfBackUptoRow : OpenClaim := { program := "ytplcabecbofjpaadoor", sum := "e2da0c74f1837bb06b502334cb23963fc8449927b026f7217677a3ac9a122cf1", func := "vidimus/vidimuslaw03.CnfBack", spec := "cnfBack", inPlace := ["internal/abi.NoEscape"], unfollowed := true, recurses := true, named := ["internal/strconv.uint64pow10", "math/bits.deBruijn32tab", "math/bits.deBruijn64tab"], apart := false, laid := [("math/bits.deBruijn32tab", laid_math_bits_deBruijn32tab), ("math/bits.deBruijn64tab", laid_math_bits_deBruijn64tab), ("internal/strconv.uint64pow10", laid_internal_strconv_uint64pow10)], narrowed := true }
def CnfBackUptoSaid : Prop := cnfBackUptoRow.holds Tryd.pinned (OpenSpec.upto cnfBackSpec)

/-- 'vidimuslaw03.CnfHolds', WHERE WHAT IT READS IS OF BULK AT MOST 1048576: true; the input reads as it did. -/
def cnfHoldsUptoRow : OpenClaim := { program := "ytplcabecbofjpaadoor", sum := "e2da0c74f1837bb06b502334cb23963fc8449927b026f7217677a3ac9a122cf1", func := "vidimus/vidimuslaw03.CnfHolds", spec := "cnfHolds", inPlace := ["internal/abi.NoEscape"], unfollowed := true, recurses := true, named := ["internal/strconv.uint64pow10", "math/bits.deBruijn32tab", "math/bits.deBruijn64tab"], apart := false, laid := [("math/bits.deBruijn32tab", laid_math_bits_deBruijn32tab), ("math/bits.deBruijn64tab", laid_math_bits_deBruijn64tab), ("internal/strconv.uint64pow10", laid_internal_strconv_uint64pow10)], narrowed := true }
def CnfHoldsUptoSaid : Prop := cnfHoldsUptoRow.holds Tryd.pinned (OpenSpec.upto cnfHoldsSpec)

/-- 'vidimuslaw03.CnfApart', WHERE WHAT IT READS IS OF BULK AT MOST 1048576: true; the input reads as it did. -/
def cnfApartUptoRow : OpenClaim := { program := "ytplcabecbofjpaadoor", sum := "e2da0c74f1837bb06b502334cb23963fc8449927b026f7217677a3ac9a122cf1", func := "vidimus/vidimuslaw03.CnfApart", spec := "cnfApart", inPlace := ["internal/abi.NoEscape"], unfollowed := true, recurses := true, named := ["internal/strconv.uint64pow10", "math/bits.deBruijn32tab", "math/bits.deBruijn64tab"], apart := false, laid := [("math/bits.deBruijn32tab", laid_math_bits_deBruijn32tab), ("math/bits.deBruijn64tab", laid_math_bits_deBruijn64tab), ("internal/strconv.uint64pow10", laid_internal_strconv_uint64pow10)], narrowed := true }
def CnfApartUptoSaid : Prop := cnfApartUptoRow.holds Tryd.pinned (OpenSpec.upto cnfApartSpec)

/-- 'vidimuslaw03.CnfEnds', WHERE WHAT IT READS IS OF BULK AT MOST 1048576: true; the input reads as it did. -/
def cnfEndsUptoRow : OpenClaim := { program := "ytplcabecbofjpaadoor", sum := "e2da0c74f1837bb06b502334cb23963fc8449927b026f7217677a3ac9a122cf1", func := "vidimus/vidimuslaw03.CnfEnds", spec := "cnfEnds", inPlace := ["internal/abi.NoEscape"], unfollowed := true, recurses := true, named := ["internal/strconv.uint64pow10", "math/bits.deBruijn32tab", "math/bits.deBruijn64tab"], apart := false, laid := [("math/bits.deBruijn32tab", laid_math_bits_deBruijn32tab), ("math/bits.deBruijn64tab", laid_math_bits_deBruijn64tab), ("internal/strconv.uint64pow10", laid_internal_strconv_uint64pow10)], narrowed := true }
def CnfEndsUptoSaid : Prop := cnfEndsUptoRow.holds Tryd.pinned (OpenSpec.upto cnfEndsSpec)

/-- 'vidimuslaw03.CnfTurned', WHERE WHAT IT READS IS OF BULK AT MOST 1048576: true; the input reads as it did. -/
def cnfTurnedUptoRow : OpenClaim := { program := "ytplcabecbofjpaadoor", sum := "e2da0c74f1837bb06b502334cb23963fc8449927b026f7217677a3ac9a122cf1", func := "vidimus/vidimuslaw03.CnfTurned", spec := "cnfTurned", inPlace := ["internal/abi.NoEscape"], unfollowed := true, recurses := true, named := ["internal/strconv.uint64pow10", "math/bits.deBruijn32tab", "math/bits.deBruijn64tab"], apart := false, laid := [("math/bits.deBruijn32tab", laid_math_bits_deBruijn32tab), ("math/bits.deBruijn64tab", laid_math_bits_deBruijn64tab), ("internal/strconv.uint64pow10", laid_internal_strconv_uint64pow10)], narrowed := true }
def CnfTurnedUptoSaid : Prop := cnfTurnedUptoRow.holds Tryd.pinned (OpenSpec.upto cnfTurnedSpec)

/-- 'vidimuslaw05.DrupTells', WHERE WHAT IT READS IS OF BULK AT MOST 1048576: true; the input reads as it did. -/
def drupTellsUptoRow : OpenClaim := { program := "ytplcabecbofjpaadoor", sum := "e2da0c74f1837bb06b502334cb23963fc8449927b026f7217677a3ac9a122cf1", func := "vidimus/vidimuslaw05.DrupTells", spec := "drupTells", inPlace := ["internal/abi.NoEscape"], unfollowed := true, recurses := true, named := ["internal/strconv.uint64pow10", "math/bits.deBruijn32tab", "math/bits.deBruijn64tab"], apart := false, laid := [("math/bits.deBruijn32tab", laid_math_bits_deBruijn32tab), ("math/bits.deBruijn64tab", laid_math_bits_deBruijn64tab), ("internal/strconv.uint64pow10", laid_internal_strconv_uint64pow10)], narrowed := true }
def DrupTellsUptoSaid : Prop := drupTellsUptoRow.holds Tryd.pinned (OpenSpec.upto drupTellsSpec)

/-- 'vidimuslaw05.DrupChecks', WHERE WHAT IT READS IS OF BULK AT MOST 1048576: true; the input reads as it did. -/
def drupChecksUptoRow : OpenClaim := { program := "ytplcabecbofjpaadoor", sum := "e2da0c74f1837bb06b502334cb23963fc8449927b026f7217677a3ac9a122cf1", func := "vidimus/vidimuslaw05.DrupChecks", spec := "drupChecks", inPlace := ["internal/abi.NoEscape"], unfollowed := true, recurses := true, named := ["internal/strconv.uint64pow10", "math/bits.deBruijn32tab", "math/bits.deBruijn64tab"], apart := false, laid := [("math/bits.deBruijn32tab", laid_math_bits_deBruijn32tab), ("math/bits.deBruijn64tab", laid_math_bits_deBruijn64tab), ("internal/strconv.uint64pow10", laid_internal_strconv_uint64pow10)], narrowed := true }
def DrupChecksUptoSaid : Prop := drupChecksUptoRow.holds Tryd.pinned (OpenSpec.upto drupChecksSpec)

/-- 'vidimuslaw05.DrupSound', WHERE WHAT IT READS IS OF BULK AT MOST 1048576: true; the input reads as it did. -/
def drupSoundUptoRow : OpenClaim := { program := "ytplcabecbofjpaadoor", sum := "e2da0c74f1837bb06b502334cb23963fc8449927b026f7217677a3ac9a122cf1", func := "vidimus/vidimuslaw05.DrupSound", spec := "drupSound", inPlace := ["internal/abi.NoEscape"], unfollowed := true, recurses := true, named := ["internal/strconv.uint64pow10", "math/bits.deBruijn32tab", "math/bits.deBruijn64tab"], apart := false, laid := [("math/bits.deBruijn32tab", laid_math_bits_deBruijn32tab), ("math/bits.deBruijn64tab", laid_math_bits_deBruijn64tab), ("internal/strconv.uint64pow10", laid_internal_strconv_uint64pow10)], narrowed := true }
def DrupSoundUptoSaid : Prop := drupSoundUptoRow.holds Tryd.pinned (OpenSpec.upto drupSoundSpec)

/-- 'vidimuslaw05.DrupBack', WHERE WHAT IT READS IS OF BULK AT MOST 1048576: true; the input reads as it did. -/
def drupBackUptoRow : OpenClaim := { program := "ytplcabecbofjpaadoor", sum := "e2da0c74f1837bb06b502334cb23963fc8449927b026f7217677a3ac9a122cf1", func := "vidimus/vidimuslaw05.DrupBack", spec := "drupBack", inPlace := ["internal/abi.NoEscape"], unfollowed := true, recurses := true, named := ["internal/strconv.uint64pow10", "math/bits.deBruijn32tab", "math/bits.deBruijn64tab"], apart := false, laid := [("math/bits.deBruijn32tab", laid_math_bits_deBruijn32tab), ("math/bits.deBruijn64tab", laid_math_bits_deBruijn64tab), ("internal/strconv.uint64pow10", laid_internal_strconv_uint64pow10)], narrowed := true }
def DrupBackUptoSaid : Prop := drupBackUptoRow.holds Tryd.pinned (OpenSpec.upto drupBackSpec)

/-- 'vidimuslaw05.DrupApart', WHERE WHAT IT READS IS OF BULK AT MOST 1048576: true; the input reads as it did. -/
def drupApartUptoRow : OpenClaim := { program := "ytplcabecbofjpaadoor", sum := "e2da0c74f1837bb06b502334cb23963fc8449927b026f7217677a3ac9a122cf1", func := "vidimus/vidimuslaw05.DrupApart", spec := "drupApart", inPlace := ["internal/abi.NoEscape"], unfollowed := true, recurses := true, named := ["internal/strconv.uint64pow10", "math/bits.deBruijn32tab", "math/bits.deBruijn64tab"], apart := false, laid := [("math/bits.deBruijn32tab", laid_math_bits_deBruijn32tab), ("math/bits.deBruijn64tab", laid_math_bits_deBruijn64tab), ("internal/strconv.uint64pow10", laid_internal_strconv_uint64pow10)], narrowed := true }
def DrupApartUptoSaid : Prop := drupApartUptoRow.holds Tryd.pinned (OpenSpec.upto drupApartSpec)

end Rows
end Go.Proofs.YtplcabecbofjpaaDoor
