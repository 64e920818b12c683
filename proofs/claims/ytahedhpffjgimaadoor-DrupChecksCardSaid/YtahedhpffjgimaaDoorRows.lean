/-
  NARROWER THAN 'FOR EVERY INPUT', by the rows' own cells (each row's printed sentence says how): CnfHolds: laid · DrupTells: laid · DrupChecks: laid · DrupSound: laid · DrupBack: laid · DrupMore: laid · DrupApart: laid · DrupKept: laid.
  DERIVED. THE GIVEN ROWS OF THIS SEAT. 8 by the template 'for every input the law returns true; each argument reads behind the call as it read before'; 0 by the template 'total and deterministic' (their statements: YtahedhpffjgimaaDoorTotals.lean).
  GIVEN WITH THE SEED: the statements are not yours to turn. If you find one false, say at which input.
  Laid BY PROGRAM, IN A SANDBOX (cutbox-rows.mjs): the forced cells as the released guide's own fill.sh prints them over the translation cea9549e6a788f3f… (all of the seat's roots in one cut). By AI agents, Wed Nov 11 2026. No macro, syntax, notation, axiom, sorry.
-/
import Derived.Test.YtahedhpffjgimaaDoorChecked
import GoSem.Claim
import GoSem.ClaimJoined
import GoSem.ClaimMapViews
import Derived.JoinedTies
import Derived.KernelRfl
namespace Go.Proofs.YtahedhpffjgimaaDoor
/- THE CELL 'sum', in the pinned program and in every row, IS THE sha256 OF THE DUMP (.gsa) THAT YtahedhpffjgimaaDoorProg.lean LOADS. Nothing in Lean hashes anything: it is a label: what it is worth is what the hold of that sum in a sandbox is worth. -/
noncomputable def Tryd.pinned : Pinned := { name := "ytahedhpffjgimaadoor", sum := "cea9549e6a788f3ff64b9fba61535d40bc06aa00e983d4f4267b43ff3523cf39", checked := Tryd.checked }
namespace Rows
def none {H : Type} : Left H := { results := [], args := [] }

/- WHAT THE LISTED PACKAGE-LEVEL VARIABLES READ AS WHEN THE CALL BEGINS. Each datum BY PROGRAM (the guide's laid-datum.mjs) off the statement by which the dump's own 'gosem.cut.vars' lays the variable. In a bare row this is a premise. The card (YtahedhpffjgimaaDoorCards.lean) ties it to the program's text. -/
def laid_math_bits_deBruijn32tab {H : Type} : DataW H := .agg [.lit (.int .u8 0), .lit (.int .u8 1), .lit (.int .u8 28), .lit (.int .u8 2), .lit (.int .u8 29), .lit (.int .u8 14), .lit (.int .u8 24), .lit (.int .u8 3), .lit (.int .u8 30), .lit (.int .u8 22), .lit (.int .u8 20), .lit (.int .u8 15), .lit (.int .u8 25), .lit (.int .u8 17), .lit (.int .u8 4), .lit (.int .u8 8), .lit (.int .u8 31), .lit (.int .u8 27), .lit (.int .u8 13), .lit (.int .u8 23), .lit (.int .u8 21), .lit (.int .u8 19), .lit (.int .u8 16), .lit (.int .u8 7), .lit (.int .u8 26), .lit (.int .u8 12), .lit (.int .u8 18), .lit (.int .u8 6), .lit (.int .u8 11), .lit (.int .u8 5), .lit (.int .u8 10), .lit (.int .u8 9)]
def laid_math_bits_deBruijn64tab {H : Type} : DataW H := .agg [.lit (.int .u8 0), .lit (.int .u8 1), .lit (.int .u8 56), .lit (.int .u8 2), .lit (.int .u8 57), .lit (.int .u8 49), .lit (.int .u8 28), .lit (.int .u8 3), .lit (.int .u8 61), .lit (.int .u8 58), .lit (.int .u8 42), .lit (.int .u8 50), .lit (.int .u8 38), .lit (.int .u8 29), .lit (.int .u8 17), .lit (.int .u8 4), .lit (.int .u8 62), .lit (.int .u8 47), .lit (.int .u8 59), .lit (.int .u8 36), .lit (.int .u8 45), .lit (.int .u8 43), .lit (.int .u8 51), .lit (.int .u8 22), .lit (.int .u8 53), .lit (.int .u8 39), .lit (.int .u8 33), .lit (.int .u8 30), .lit (.int .u8 24), .lit (.int .u8 18), .lit (.int .u8 12), .lit (.int .u8 5), .lit (.int .u8 63), .lit (.int .u8 55), .lit (.int .u8 48), .lit (.int .u8 27), .lit (.int .u8 60), .lit (.int .u8 41), .lit (.int .u8 37), .lit (.int .u8 16), .lit (.int .u8 46), .lit (.int .u8 35), .lit (.int .u8 44), .lit (.int .u8 21), .lit (.int .u8 52), .lit (.int .u8 32), .lit (.int .u8 23), .lit (.int .u8 11), .lit (.int .u8 54), .lit (.int .u8 26), .lit (.int .u8 40), .lit (.int .u8 15), .lit (.int .u8 34), .lit (.int .u8 20), .lit (.int .u8 31), .lit (.int .u8 10), .lit (.int .u8 25), .lit (.int .u8 14), .lit (.int .u8 19), .lit (.int .u8 9), .lit (.int .u8 13), .lit (.int .u8 8), .lit (.int .u8 7), .lit (.int .u8 6)]
def laid_internal_strconv_uint64pow10 {H : Type} : DataW H := .agg [.lit (.int .u64 1), .lit (.int .u64 10), .lit (.int .u64 100), .lit (.int .u64 1000), .lit (.int .u64 10000), .lit (.int .u64 100000), .lit (.int .u64 1000000), .lit (.int .u64 10000000), .lit (.int .u64 100000000), .lit (.int .u64 1000000000), .lit (.int .u64 10000000000), .lit (.int .u64 100000000000), .lit (.int .u64 1000000000000), .lit (.int .u64 10000000000000), .lit (.int .u64 100000000000000), .lit (.int .u64 1000000000000000), .lit (.int .u64 10000000000000000), .lit (.int .u64 100000000000000000), .lit (.int .u64 1000000000000000000), .lit (.int .u64 10000000000000000000)]

/-- 'vidimuslaw03.CnfHolds': WHATEVER THE INPUT: true; the input reads as it did. -/
def cnfHoldsSpec : ChangeSpec := { name := "cnfHolds", fn := fun _ => fun
  | [d] => { results := [.lit (.bool true)], args := [d] }
  | _ => none }
def cnfHoldsRow : OpenClaim := { program := "ytahedhpffjgimaadoor", sum := "cea9549e6a788f3ff64b9fba61535d40bc06aa00e983d4f4267b43ff3523cf39", func := "vidimus/vidimuslaw03.CnfHolds", spec := "cnfHolds", inPlace := ["internal/abi.NoEscape"], unfollowed := true, recurses := true, named := ["internal/strconv.uint64pow10", "math/bits.deBruijn32tab", "math/bits.deBruijn64tab"], apart := false, laid := [("math/bits.deBruijn32tab", laid_math_bits_deBruijn32tab), ("math/bits.deBruijn64tab", laid_math_bits_deBruijn64tab), ("internal/strconv.uint64pow10", laid_internal_strconv_uint64pow10)] }
def CnfHoldsSaid : Prop := cnfHoldsRow.holds Tryd.pinned (OpenSpec.ofChange cnfHoldsSpec)

/-- ITS FALSE NEIGHBOUR: 'it returns false'. Refute it at one input. -/
def cnfHoldsWrong : ChangeSpec := { name := "cnfHolds", fn := fun _ => fun
  | [d] => { results := [.lit (.bool false)], args := [d] }
  | _ => none }
def CnfHoldsWrongFalsely : Prop := cnfHoldsRow.holds Tryd.pinned (OpenSpec.ofChange cnfHoldsWrong)

/-- 'vidimuslaw05.DrupTells': WHATEVER THE INPUT: true; the input reads as it did. -/
def drupTellsSpec : ChangeSpec := { name := "drupTells", fn := fun _ => fun
  | [d] => { results := [.lit (.bool true)], args := [d] }
  | _ => none }
def drupTellsRow : OpenClaim := { program := "ytahedhpffjgimaadoor", sum := "cea9549e6a788f3ff64b9fba61535d40bc06aa00e983d4f4267b43ff3523cf39", func := "vidimus/vidimuslaw05.DrupTells", spec := "drupTells", inPlace := ["internal/abi.NoEscape"], unfollowed := true, recurses := true, named := ["internal/strconv.uint64pow10", "math/bits.deBruijn32tab", "math/bits.deBruijn64tab"], apart := false, laid := [("math/bits.deBruijn32tab", laid_math_bits_deBruijn32tab), ("math/bits.deBruijn64tab", laid_math_bits_deBruijn64tab), ("internal/strconv.uint64pow10", laid_internal_strconv_uint64pow10)] }
def DrupTellsSaid : Prop := drupTellsRow.holds Tryd.pinned (OpenSpec.ofChange drupTellsSpec)

/-- ITS FALSE NEIGHBOUR: 'it returns false'. Refute it at one input. -/
def drupTellsWrong : ChangeSpec := { name := "drupTells", fn := fun _ => fun
  | [d] => { results := [.lit (.bool false)], args := [d] }
  | _ => none }
def DrupTellsWrongFalsely : Prop := drupTellsRow.holds Tryd.pinned (OpenSpec.ofChange drupTellsWrong)

/-- 'vidimuslaw05.DrupChecks': WHATEVER THE INPUT: true; the input reads as it did. -/
def drupChecksSpec : ChangeSpec := { name := "drupChecks", fn := fun _ => fun
  | [d1, d2] => { results := [.lit (.bool true)], args := [d1, d2] }
  | _ => none }
def drupChecksRow : OpenClaim := { program := "ytahedhpffjgimaadoor", sum := "cea9549e6a788f3ff64b9fba61535d40bc06aa00e983d4f4267b43ff3523cf39", func := "vidimus/vidimuslaw05.DrupChecks", spec := "drupChecks", inPlace := ["internal/abi.NoEscape"], unfollowed := true, recurses := true, named := ["internal/strconv.uint64pow10", "math/bits.deBruijn32tab", "math/bits.deBruijn64tab"], apart := false, laid := [("math/bits.deBruijn32tab", laid_math_bits_deBruijn32tab), ("math/bits.deBruijn64tab", laid_math_bits_deBruijn64tab), ("internal/strconv.uint64pow10", laid_internal_strconv_uint64pow10)] }
def DrupChecksSaid : Prop := drupChecksRow.holds Tryd.pinned (OpenSpec.ofChange drupChecksSpec)

/-- ITS FALSE NEIGHBOUR: 'it returns false'. Refute it at one input. -/
def drupChecksWrong : ChangeSpec := { name := "drupChecks", fn := fun _ => fun
  | [d1, d2] => { results := [.lit (.bool false)], args := [d1, d2] }
  | _ => none }
def DrupChecksWrongFalsely : Prop := drupChecksRow.holds Tryd.pinned (OpenSpec.ofChange drupChecksWrong)

/-- 'vidimuslaw05.DrupSound': WHATEVER THE INPUT: true; the input reads as it did. -/
def drupSoundSpec : ChangeSpec := { name := "drupSound", fn := fun _ => fun
  | [d1, d2, d3] => { results := [.lit (.bool true)], args := [d1, d2, d3] }
  | _ => none }
def drupSoundRow : OpenClaim := { program := "ytahedhpffjgimaadoor", sum := "cea9549e6a788f3ff64b9fba61535d40bc06aa00e983d4f4267b43ff3523cf39", func := "vidimus/vidimuslaw05.DrupSound", spec := "drupSound", inPlace := ["internal/abi.NoEscape"], unfollowed := true, recurses := true, named := ["internal/strconv.uint64pow10", "math/bits.deBruijn32tab", "math/bits.deBruijn64tab"], apart := false, laid := [("math/bits.deBruijn32tab", laid_math_bits_deBruijn32tab), ("math/bits.deBruijn64tab", laid_math_bits_deBruijn64tab), ("internal/strconv.uint64pow10", laid_internal_strconv_uint64pow10)] }
def DrupSoundSaid : Prop := drupSoundRow.holds Tryd.pinned (OpenSpec.ofChange drupSoundSpec)

/-- ITS FALSE NEIGHBOUR: 'it returns false'. Refute it at one input. -/
def drupSoundWrong : ChangeSpec := { name := "drupSound", fn := fun _ => fun
  | [d1, d2, d3] => { results := [.lit (.bool false)], args := [d1, d2, d3] }
  | _ => none }
def DrupSoundWrongFalsely : Prop := drupSoundRow.holds Tryd.pinned (OpenSpec.ofChange drupSoundWrong)

/-- 'vidimuslaw05.DrupBack': WHATEVER THE INPUT: true; the input reads as it did. -/
def drupBackSpec : ChangeSpec := { name := "drupBack", fn := fun _ => fun
  | [d1, d2, d3] => { results := [.lit (.bool true)], args := [d1, d2, d3] }
  | _ => none }
def drupBackRow : OpenClaim := { program := "ytahedhpffjgimaadoor", sum := "cea9549e6a788f3ff64b9fba61535d40bc06aa00e983d4f4267b43ff3523cf39", func := "vidimus/vidimuslaw05.DrupBack", spec := "drupBack", inPlace := ["internal/abi.NoEscape"], unfollowed := true, recurses := true, named := ["internal/strconv.uint64pow10", "math/bits.deBruijn32tab", "math/bits.deBruijn64tab"], apart := false, laid := [("math/bits.deBruijn32tab", laid_math_bits_deBruijn32tab), ("math/bits.deBruijn64tab", laid_math_bits_deBruijn64tab), ("internal/strconv.uint64pow10", laid_internal_strconv_uint64pow10)] }
def DrupBackSaid : Prop := drupBackRow.holds Tryd.pinned (OpenSpec.ofChange drupBackSpec)

/-- ITS FALSE NEIGHBOUR: 'it returns false'. Refute it at one input. -/
def drupBackWrong : ChangeSpec := { name := "drupBack", fn := fun _ => fun
  | [d1, d2, d3] => { results := [.lit (.bool false)], args := [d1, d2, d3] }
  | _ => none }
def DrupBackWrongFalsely : Prop := drupBackRow.holds Tryd.pinned (OpenSpec.ofChange drupBackWrong)

/-- 'vidimuslaw05.DrupMore': WHATEVER THE INPUT: true; the input reads as it did. -/
def drupMoreSpec : ChangeSpec := { name := "drupMore", fn := fun _ => fun
  | [d1, d2, d3] => { results := [.lit (.bool true)], args := [d1, d2, d3] }
  | _ => none }
def drupMoreRow : OpenClaim := { program := "ytahedhpffjgimaadoor", sum := "cea9549e6a788f3ff64b9fba61535d40bc06aa00e983d4f4267b43ff3523cf39", func := "vidimus/vidimuslaw05.DrupMore", spec := "drupMore", inPlace := ["internal/abi.NoEscape"], unfollowed := true, recurses := true, named := ["internal/strconv.uint64pow10", "math/bits.deBruijn32tab", "math/bits.deBruijn64tab"], apart := false, laid := [("math/bits.deBruijn32tab", laid_math_bits_deBruijn32tab), ("math/bits.deBruijn64tab", laid_math_bits_deBruijn64tab), ("internal/strconv.uint64pow10", laid_internal_strconv_uint64pow10)] }
def DrupMoreSaid : Prop := drupMoreRow.holds Tryd.pinned (OpenSpec.ofChange drupMoreSpec)

/-- ITS FALSE NEIGHBOUR: 'it returns false'. Refute it at one input. -/
def drupMoreWrong : ChangeSpec := { name := "drupMore", fn := fun _ => fun
  | [d1, d2, d3] => { results := [.lit (.bool false)], args := [d1, d2, d3] }
  | _ => none }
def DrupMoreWrongFalsely : Prop := drupMoreRow.holds Tryd.pinned (OpenSpec.ofChange drupMoreWrong)

/-- 'vidimuslaw05.DrupApart': WHATEVER THE INPUT: true; the input reads as it did. -/
def drupApartSpec : ChangeSpec := { name := "drupApart", fn := fun _ => fun
  | [d] => { results := [.lit (.bool true)], args := [d] }
  | _ => none }
def drupApartRow : OpenClaim := { program := "ytahedhpffjgimaadoor", sum := "cea9549e6a788f3ff64b9fba61535d40bc06aa00e983d4f4267b43ff3523cf39", func := "vidimus/vidimuslaw05.DrupApart", spec := "drupApart", inPlace := ["internal/abi.NoEscape"], unfollowed := true, recurses := true, named := ["internal/strconv.uint64pow10", "math/bits.deBruijn32tab", "math/bits.deBruijn64tab"], apart := false, laid := [("math/bits.deBruijn32tab", laid_math_bits_deBruijn32tab), ("math/bits.deBruijn64tab", laid_math_bits_deBruijn64tab), ("internal/strconv.uint64pow10", laid_internal_strconv_uint64pow10)] }
def DrupApartSaid : Prop := drupApartRow.holds Tryd.pinned (OpenSpec.ofChange drupApartSpec)

/-- ITS FALSE NEIGHBOUR: 'it returns false'. Refute it at one input. -/
def drupApartWrong : ChangeSpec := { name := "drupApart", fn := fun _ => fun
  | [d] => { results := [.lit (.bool false)], args := [d] }
  | _ => none }
def DrupApartWrongFalsely : Prop := drupApartRow.holds Tryd.pinned (OpenSpec.ofChange drupApartWrong)

/-- 'vidimuslaw05.DrupKept': WHATEVER THE INPUT: true; the input reads as it did. -/
def drupKeptSpec : ChangeSpec := { name := "drupKept", fn := fun _ => fun
  | [d1, d2, d3] => { results := [.lit (.bool true)], args := [d1, d2, d3] }
  | _ => none }
def drupKeptRow : OpenClaim := { program := "ytahedhpffjgimaadoor", sum := "cea9549e6a788f3ff64b9fba61535d40bc06aa00e983d4f4267b43ff3523cf39", func := "vidimus/vidimuslaw05.DrupKept", spec := "drupKept", inPlace := ["internal/abi.NoEscape"], unfollowed := true, recurses := true, named := ["internal/strconv.uint64pow10", "math/bits.deBruijn32tab", "math/bits.deBruijn64tab"], apart := false, laid := [("math/bits.deBruijn32tab", laid_math_bits_deBruijn32tab), ("math/bits.deBruijn64tab", laid_math_bits_deBruijn64tab), ("internal/strconv.uint64pow10", laid_internal_strconv_uint64pow10)] }
def DrupKeptSaid : Prop := drupKeptRow.holds Tryd.pinned (OpenSpec.ofChange drupKeptSpec)

/-- ITS FALSE NEIGHBOUR: 'it returns false'. Refute it at one input. -/
def drupKeptWrong : ChangeSpec := { name := "drupKept", fn := fun _ => fun
  | [d1, d2, d3] => { results := [.lit (.bool false)], args := [d1, d2, d3] }
  | _ => none }
def DrupKeptWrongFalsely : Prop := drupKeptRow.holds Tryd.pinned (OpenSpec.ofChange drupKeptWrong)

/- THE SECOND FORM. 'bulk': how many values and letters a reading holds, each counted each time it is reached (what is shared counts as often as it is met; a slice's spare places count too). A statement '..UptoSaid' is the law's where the arguments, and the package variables that the reading takes, are together of bulk at most 1048576: NARROWER than '..Said'. Prove '..Said' where nothing that the law and all that it calls make is longer than what came in: it says more and counts as full. Else prove '..UptoSaid'. A law counts once. -/
mutual
def uptoBulk {H : Type} : DataW H → Nat
  | .lit (.string bytes) => bytes.length + 1
  | .lit _ => 1
  | .nil => 1
  | .ptr d => uptoBulk d + 1
  | .slice elems spare => uptoBulkAll elems + uptoBulkAll spare + 1
  | .agg parts => uptoBulkAll parts + 1
  | .iface _ d => uptoBulk d + 1
  | .map entries => uptoBulkEntries entries + 1
  | .held _ => 1
def uptoBulkAll {H : Type} : List (DataW H) → Nat
  | [] => 0
  | d :: r => uptoBulk d + uptoBulkAll r
def uptoBulkEntries {H : Type} : List (Lit × DataW H) → Nat
  | [] => 0
  | x :: r => uptoBulkEntry x + uptoBulkEntries r
def uptoBulkEntry {H : Type} : Lit × DataW H → Nat
  | (.string bytes, d) => bytes.length + uptoBulk d + 1
  | (_, d) => uptoBulk d + 1
 end
def uptoSmall : (H : Type) → List (DataW H) → Bool := fun _ ds => decide (uptoBulkAll ds ≤ 1048576)
def OpenSpec.upto (s : _root_.Go.ChangeSpec) : _root_.Go.OpenSpec := { _root_.Go.OpenSpec.ofChange s with cond := some uptoSmall }

/-- 'vidimuslaw03.CnfHolds', WHERE WHAT IT READS IS OF BULK AT MOST 1048576: true; the input reads as it did. -/
def cnfHoldsUptoRow : OpenClaim := { program := "ytahedhpffjgimaadoor", sum := "cea9549e6a788f3ff64b9fba61535d40bc06aa00e983d4f4267b43ff3523cf39", func := "vidimus/vidimuslaw03.CnfHolds", spec := "cnfHolds", inPlace := ["internal/abi.NoEscape"], unfollowed := true, recurses := true, named := ["internal/strconv.uint64pow10", "math/bits.deBruijn32tab", "math/bits.deBruijn64tab"], apart := false, laid := [("math/bits.deBruijn32tab", laid_math_bits_deBruijn32tab), ("math/bits.deBruijn64tab", laid_math_bits_deBruijn64tab), ("internal/strconv.uint64pow10", laid_internal_strconv_uint64pow10)], narrowed := true }
def CnfHoldsUptoSaid : Prop := cnfHoldsUptoRow.holds Tryd.pinned (OpenSpec.upto cnfHoldsSpec)

/-- 'vidimuslaw05.DrupTells', WHERE WHAT IT READS IS OF BULK AT MOST 1048576: true; the input reads as it did. -/
def drupTellsUptoRow : OpenClaim := { program := "ytahedhpffjgimaadoor", sum := "cea9549e6a788f3ff64b9fba61535d40bc06aa00e983d4f4267b43ff3523cf39", func := "vidimus/vidimuslaw05.DrupTells", spec := "drupTells", inPlace := ["internal/abi.NoEscape"], unfollowed := true, recurses := true, named := ["internal/strconv.uint64pow10", "math/bits.deBruijn32tab", "math/bits.deBruijn64tab"], apart := false, laid := [("math/bits.deBruijn32tab", laid_math_bits_deBruijn32tab), ("math/bits.deBruijn64tab", laid_math_bits_deBruijn64tab), ("internal/strconv.uint64pow10", laid_internal_strconv_uint64pow10)], narrowed := true }
def DrupTellsUptoSaid : Prop := drupTellsUptoRow.holds Tryd.pinned (OpenSpec.upto drupTellsSpec)

/-- 'vidimuslaw05.DrupChecks', WHERE WHAT IT READS IS OF BULK AT MOST 1048576: true; the input reads as it did. -/
def drupChecksUptoRow : OpenClaim := { program := "ytahedhpffjgimaadoor", sum := "cea9549e6a788f3ff64b9fba61535d40bc06aa00e983d4f4267b43ff3523cf39", func := "vidimus/vidimuslaw05.DrupChecks", spec := "drupChecks", inPlace := ["internal/abi.NoEscape"], unfollowed := true, recurses := true, named := ["internal/strconv.uint64pow10", "math/bits.deBruijn32tab", "math/bits.deBruijn64tab"], apart := false, laid := [("math/bits.deBruijn32tab", laid_math_bits_deBruijn32tab), ("math/bits.deBruijn64tab", laid_math_bits_deBruijn64tab), ("internal/strconv.uint64pow10", laid_internal_strconv_uint64pow10)], narrowed := true }
def DrupChecksUptoSaid : Prop := drupChecksUptoRow.holds Tryd.pinned (OpenSpec.upto drupChecksSpec)

/-- 'vidimuslaw05.DrupSound', WHERE WHAT IT READS IS OF BULK AT MOST 1048576: true; the input reads as it did. -/
def drupSoundUptoRow : OpenClaim := { program := "ytahedhpffjgimaadoor", sum := "cea9549e6a788f3ff64b9fba61535d40bc06aa00e983d4f4267b43ff3523cf39", func := "vidimus/vidimuslaw05.DrupSound", spec := "drupSound", inPlace := ["internal/abi.NoEscape"], unfollowed := true, recurses := true, named := ["internal/strconv.uint64pow10", "math/bits.deBruijn32tab", "math/bits.deBruijn64tab"], apart := false, laid := [("math/bits.deBruijn32tab", laid_math_bits_deBruijn32tab), ("math/bits.deBruijn64tab", laid_math_bits_deBruijn64tab), ("internal/strconv.uint64pow10", laid_internal_strconv_uint64pow10)], narrowed := true }
def DrupSoundUptoSaid : Prop := drupSoundUptoRow.holds Tryd.pinned (OpenSpec.upto drupSoundSpec)

/-- 'vidimuslaw05.DrupBack', WHERE WHAT IT READS IS OF BULK AT MOST 1048576: true; the input reads as it did. -/
def drupBackUptoRow : OpenClaim := { program := "ytahedhpffjgimaadoor", sum := "cea9549e6a788f3ff64b9fba61535d40bc06aa00e983d4f4267b43ff3523cf39", func := "vidimus/vidimuslaw05.DrupBack", spec := "drupBack", inPlace := ["internal/abi.NoEscape"], unfollowed := true, recurses := true, named := ["internal/strconv.uint64pow10", "math/bits.deBruijn32tab", "math/bits.deBruijn64tab"], apart := false, laid := [("math/bits.deBruijn32tab", laid_math_bits_deBruijn32tab), ("math/bits.deBruijn64tab", laid_math_bits_deBruijn64tab), ("internal/strconv.uint64pow10", laid_internal_strconv_uint64pow10)], narrowed := true }
def DrupBackUptoSaid : Prop := drupBackUptoRow.holds Tryd.pinned (OpenSpec.upto drupBackSpec)

/-- 'vidimuslaw05.DrupMore', WHERE WHAT IT READS IS OF BULK AT MOST 1048576: true; the input reads as it did. -/
def drupMoreUptoRow : OpenClaim := { program := "ytahedhpffjgimaadoor", sum := "cea9549e6a788f3ff64b9fba61535d40bc06aa00e983d4f4267b43ff3523cf39", func := "vidimus/vidimuslaw05.DrupMore", spec := "drupMore", inPlace := ["internal/abi.NoEscape"], unfollowed := true, recurses := true, named := ["internal/strconv.uint64pow10", "math/bits.deBruijn32tab", "math/bits.deBruijn64tab"], apart := false, laid := [("math/bits.deBruijn32tab", laid_math_bits_deBruijn32tab), ("math/bits.deBruijn64tab", laid_math_bits_deBruijn64tab), ("internal/strconv.uint64pow10", laid_internal_strconv_uint64pow10)], narrowed := true }
def DrupMoreUptoSaid : Prop := drupMoreUptoRow.holds Tryd.pinned (OpenSpec.upto drupMoreSpec)

/-- 'vidimuslaw05.DrupApart', WHERE WHAT IT READS IS OF BULK AT MOST 1048576: true; the input reads as it did. -/
def drupApartUptoRow : OpenClaim := { program := "ytahedhpffjgimaadoor", sum := "cea9549e6a788f3ff64b9fba61535d40bc06aa00e983d4f4267b43ff3523cf39", func := "vidimus/vidimuslaw05.DrupApart", spec := "drupApart", inPlace := ["internal/abi.NoEscape"], unfollowed := true, recurses := true, named := ["internal/strconv.uint64pow10", "math/bits.deBruijn32tab", "math/bits.deBruijn64tab"], apart := false, laid := [("math/bits.deBruijn32tab", laid_math_bits_deBruijn32tab), ("math/bits.deBruijn64tab", laid_math_bits_deBruijn64tab), ("internal/strconv.uint64pow10", laid_internal_strconv_uint64pow10)], narrowed := true }
def DrupApartUptoSaid : Prop := drupApartUptoRow.holds Tryd.pinned (OpenSpec.upto drupApartSpec)

/-- 'vidimuslaw05.DrupKept', WHERE WHAT IT READS IS OF BULK AT MOST 1048576: true; the input reads as it did. -/
def drupKeptUptoRow : OpenClaim := { program := "ytahedhpffjgimaadoor", sum := "cea9549e6a788f3ff64b9fba61535d40bc06aa00e983d4f4267b43ff3523cf39", func := "vidimus/vidimuslaw05.DrupKept", spec := "drupKept", inPlace := ["internal/abi.NoEscape"], unfollowed := true, recurses := true, named := ["internal/strconv.uint64pow10", "math/bits.deBruijn32tab", "math/bits.deBruijn64tab"], apart := false, laid := [("math/bits.deBruijn32tab", laid_math_bits_deBruijn32tab), ("math/bits.deBruijn64tab", laid_math_bits_deBruijn64tab), ("internal/strconv.uint64pow10", laid_internal_strconv_uint64pow10)], narrowed := true }
def DrupKeptUptoSaid : Prop := drupKeptUptoRow.holds Tryd.pinned (OpenSpec.upto drupKeptSpec)

end Rows
end Go.Proofs.YtahedhpffjgimaaDoor
