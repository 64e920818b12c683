/-
  DERIVED. GIVEN WITH THE SEED: THE CARDS: each row of YtplcabecbofjpaaDoorRows.lean that lists a variable, with what it lists TIED to the program's text (the seventh form; the later family's looks); each row that meets fmt, with fmt's text TOLD by the authors' own Lean function (tested against real Go, not proved from fmt's source: count such statements apart). THE CARD IS WHAT COUNTS. Prove the row's statement (the work); the ties are given (YtplcabecbofjpaaDoorTie.lean); close each card by the builder's one call (the guide's Derived/Test/ToyasCard.lean, 'card_holds'). Laid BY PROGRAM, IN A SANDBOX (cutbox-door.mjs). By AI agents, Wed Nov 11 2026. No macro, syntax, notation, axiom, sorry.
-/
import Derived.Test.YtplcabecbofjpaaDoorRows
import GoSem.ClaimSeven
namespace Go.Proofs.YtplcabecbofjpaaDoor
namespace Rows

/-- THE TIED CARD OF 'vidimuslaw03.CnfTells'. -/
def cnfTellsCard : Claim7 := { stood := { row := cnfTellsRow, standIns := [], harness := (true, "a220ba03a35a92fe3d3827c2ed9372c377a40a33f357c22bef491dc7485db849"), looks := true }, kinds := [], alts := [], laidByText := true, laidKinds := [.data, .data, .data], laidTests := true, laidLooks := .later }
def CnfTellsCardSaid : Prop := Claim7.holds Tryd.pinned (.plain (OpenSpec.ofChange cnfTellsSpec)) cnfTellsCard

/-- THE TIED CARD OF 'vidimuslaw03.CnfModels'. -/
def cnfModelsCard : Claim7 := { stood := { row := cnfModelsRow, standIns := [], harness := (true, "a220ba03a35a92fe3d3827c2ed9372c377a40a33f357c22bef491dc7485db849"), looks := true }, kinds := [], alts := [], laidByText := true, laidKinds := [.data, .data, .data], laidTests := true, laidLooks := .later }
def CnfModelsCardSaid : Prop := Claim7.holds Tryd.pinned (.plain (OpenSpec.ofChange cnfModelsSpec)) cnfModelsCard

/-- THE TIED CARD OF 'vidimuslaw03.CnfBack'. -/
def cnfBackCard : Claim7 := { stood := { row := cnfBackRow, standIns := [], harness := (true, "a220ba03a35a92fe3d3827c2ed9372c377a40a33f357c22bef491dc7485db849"), looks := true }, kinds := [], alts := [], laidByText := true, laidKinds := [.data, .data, .data], laidTests := true, laidLooks := .later }
def CnfBackCardSaid : Prop := Claim7.holds Tryd.pinned (.plain (OpenSpec.ofChange cnfBackSpec)) cnfBackCard

/-- THE TIED CARD OF 'vidimuslaw03.CnfHolds'. -/
def cnfHoldsCard : Claim7 := { stood := { row := cnfHoldsRow, standIns := [], harness := (true, "a220ba03a35a92fe3d3827c2ed9372c377a40a33f357c22bef491dc7485db849"), looks := true }, kinds := [], alts := [], laidByText := true, laidKinds := [.data, .data, .data], laidTests := true, laidLooks := .later }
def CnfHoldsCardSaid : Prop := Claim7.holds Tryd.pinned (.plain (OpenSpec.ofChange cnfHoldsSpec)) cnfHoldsCard

/-- THE TIED CARD OF 'vidimuslaw03.CnfApart'. -/
def cnfApartCard : Claim7 := { stood := { row := cnfApartRow, standIns := [], harness := (true, "a220ba03a35a92fe3d3827c2ed9372c377a40a33f357c22bef491dc7485db849"), looks := true }, kinds := [], alts := [], laidByText := true, laidKinds := [.data, .data, .data], laidTests := true, laidLooks := .later }
def CnfApartCardSaid : Prop := Claim7.holds Tryd.pinned (.plain (OpenSpec.ofChange cnfApartSpec)) cnfApartCard

/-- THE TIED CARD OF 'vidimuslaw03.CnfEnds'. -/
def cnfEndsCard : Claim7 := { stood := { row := cnfEndsRow, standIns := [], harness := (true, "a220ba03a35a92fe3d3827c2ed9372c377a40a33f357c22bef491dc7485db849"), looks := true }, kinds := [], alts := [], laidByText := true, laidKinds := [.data, .data, .data], laidTests := true, laidLooks := .later }
def CnfEndsCardSaid : Prop := Claim7.holds Tryd.pinned (.plain (OpenSpec.ofChange cnfEndsSpec)) cnfEndsCard

/-- THE TIED CARD OF 'vidimuslaw03.CnfTurned'. -/
def cnfTurnedCard : Claim7 := { stood := { row := cnfTurnedRow, standIns := [], harness := (true, "a220ba03a35a92fe3d3827c2ed9372c377a40a33f357c22bef491dc7485db849"), looks := true }, kinds := [], alts := [], laidByText := true, laidKinds := [.data, .data, .data], laidTests := true, laidLooks := .later }
def CnfTurnedCardSaid : Prop := Claim7.holds Tryd.pinned (.plain (OpenSpec.ofChange cnfTurnedSpec)) cnfTurnedCard

/-- THE TIED CARD OF 'vidimuslaw05.DrupTells'. -/
def drupTellsCard : Claim7 := { stood := { row := drupTellsRow, standIns := [], harness := (true, "a220ba03a35a92fe3d3827c2ed9372c377a40a33f357c22bef491dc7485db849"), looks := true }, kinds := [], alts := [], laidByText := true, laidKinds := [.data, .data, .data], laidTests := true, laidLooks := .later }
def DrupTellsCardSaid : Prop := Claim7.holds Tryd.pinned (.plain (OpenSpec.ofChange drupTellsSpec)) drupTellsCard

/-- THE TIED CARD OF 'vidimuslaw05.DrupChecks'. -/
def drupChecksCard : Claim7 := { stood := { row := drupChecksRow, standIns := [], harness := (true, "a220ba03a35a92fe3d3827c2ed9372c377a40a33f357c22bef491dc7485db849"), looks := true }, kinds := [], alts := [], laidByText := true, laidKinds := [.data, .data, .data], laidTests := true, laidLooks := .later }
def DrupChecksCardSaid : Prop := Claim7.holds Tryd.pinned (.plain (OpenSpec.ofChange drupChecksSpec)) drupChecksCard

/-- THE TIED CARD OF 'vidimuslaw05.DrupSound'. -/
def drupSoundCard : Claim7 := { stood := { row := drupSoundRow, standIns := [], harness := (true, "a220ba03a35a92fe3d3827c2ed9372c377a40a33f357c22bef491dc7485db849"), looks := true }, kinds := [], alts := [], laidByText := true, laidKinds := [.data, .data, .data], laidTests := true, laidLooks := .later }
def DrupSoundCardSaid : Prop := Claim7.holds Tryd.pinned (.plain (OpenSpec.ofChange drupSoundSpec)) drupSoundCard

/-- THE TIED CARD OF 'vidimuslaw05.DrupBack'. -/
def drupBackCard : Claim7 := { stood := { row := drupBackRow, standIns := [], harness := (true, "a220ba03a35a92fe3d3827c2ed9372c377a40a33f357c22bef491dc7485db849"), looks := true }, kinds := [], alts := [], laidByText := true, laidKinds := [.data, .data, .data], laidTests := true, laidLooks := .later }
def DrupBackCardSaid : Prop := Claim7.holds Tryd.pinned (.plain (OpenSpec.ofChange drupBackSpec)) drupBackCard

/-- THE TIED CARD OF 'vidimuslaw05.DrupApart'. -/
def drupApartCard : Claim7 := { stood := { row := drupApartRow, standIns := [], harness := (true, "a220ba03a35a92fe3d3827c2ed9372c377a40a33f357c22bef491dc7485db849"), looks := true }, kinds := [], alts := [], laidByText := true, laidKinds := [.data, .data, .data], laidTests := true, laidLooks := .later }
def DrupApartCardSaid : Prop := Claim7.holds Tryd.pinned (.plain (OpenSpec.ofChange drupApartSpec)) drupApartCard

/-- THE SECOND FORM's CARD OF 'vidimuslaw03.CnfTells'. -/
def cnfTellsUptoCard : Claim7 := { stood := { row := cnfTellsUptoRow, standIns := [], harness := (true, "a220ba03a35a92fe3d3827c2ed9372c377a40a33f357c22bef491dc7485db849"), looks := true }, kinds := [], alts := [], laidByText := true, laidKinds := [.data, .data, .data], laidTests := true, laidLooks := .later }
def CnfTellsUptoCardSaid : Prop := Claim7.holds Tryd.pinned (.plain (OpenSpec.upto cnfTellsSpec)) cnfTellsUptoCard

/-- THE SECOND FORM's CARD OF 'vidimuslaw03.CnfModels'. -/
def cnfModelsUptoCard : Claim7 := { stood := { row := cnfModelsUptoRow, standIns := [], harness := (true, "a220ba03a35a92fe3d3827c2ed9372c377a40a33f357c22bef491dc7485db849"), looks := true }, kinds := [], alts := [], laidByText := true, laidKinds := [.data, .data, .data], laidTests := true, laidLooks := .later }
def CnfModelsUptoCardSaid : Prop := Claim7.holds Tryd.pinned (.plain (OpenSpec.upto cnfModelsSpec)) cnfModelsUptoCard

/-- THE SECOND FORM's CARD OF 'vidimuslaw03.CnfBack'. -/
def cnfBackUptoCard : Claim7 := { stood := { row := cnfBackUptoRow, standIns := [], harness := (true, "a220ba03a35a92fe3d3827c2ed9372c377a40a33f357c22bef491dc7485db849"), looks := true }, kinds := [], alts := [], laidByText := true, laidKinds := [.data, .data, .data], laidTests := true, laidLooks := .later }
def CnfBackUptoCardSaid : Prop := Claim7.holds Tryd.pinned (.plain (OpenSpec.upto cnfBackSpec)) cnfBackUptoCard

/-- THE SECOND FORM's CARD OF 'vidimuslaw03.CnfHolds'. -/
def cnfHoldsUptoCard : Claim7 := { stood := { row := cnfHoldsUptoRow, standIns := [], harness := (true, "a220ba03a35a92fe3d3827c2ed9372c377a40a33f357c22bef491dc7485db849"), looks := true }, kinds := [], alts := [], laidByText := true, laidKinds := [.data, .data, .data], laidTests := true, laidLooks := .later }
def CnfHoldsUptoCardSaid : Prop := Claim7.holds Tryd.pinned (.plain (OpenSpec.upto cnfHoldsSpec)) cnfHoldsUptoCard

/-- THE SECOND FORM's CARD OF 'vidimuslaw03.CnfApart'. -/
def cnfApartUptoCard : Claim7 := { stood := { row := cnfApartUptoRow, standIns := [], harness := (true, "a220ba03a35a92fe3d3827c2ed9372c377a40a33f357c22bef491dc7485db849"), looks := true }, kinds := [], alts := [], laidByText := true, laidKinds := [.data, .data, .data], laidTests := true, laidLooks := .later }
def CnfApartUptoCardSaid : Prop := Claim7.holds Tryd.pinned (.plain (OpenSpec.upto cnfApartSpec)) cnfApartUptoCard

/-- THE SECOND FORM's CARD OF 'vidimuslaw03.CnfEnds'. -/
def cnfEndsUptoCard : Claim7 := { stood := { row := cnfEndsUptoRow, standIns := [], harness := (true, "a220ba03a35a92fe3d3827c2ed9372c377a40a33f357c22bef491dc7485db849"), looks := true }, kinds := [], alts := [], laidByText := true, laidKinds := [.data, .data, .data], laidTests := true, laidLooks := .later }
def CnfEndsUptoCardSaid : Prop := Claim7.holds Tryd.pinned (.plain (OpenSpec.upto cnfEndsSpec)) cnfEndsUptoCard

/-- THE SECOND FORM's CARD OF 'vidimuslaw03.CnfTurned'. -/
def cnfTurnedUptoCard : Claim7 := { stood := { row := cnfTurnedUptoRow, standIns := [], harness := (true, "a220ba03a35a92fe3d3827c2ed9372c377a40a33f357c22bef491dc7485db849"), looks := true }, kinds := [], alts := [], laidByText := true, laidKinds := [.data, .data, .data], laidTests := true, laidLooks := .later }
def CnfTurnedUptoCardSaid : Prop := Claim7.holds Tryd.pinned (.plain (OpenSpec.upto cnfTurnedSpec)) cnfTurnedUptoCard

/-- THE SECOND FORM's CARD OF 'vidimuslaw05.DrupTells'. -/
def drupTellsUptoCard : Claim7 := { stood := { row := drupTellsUptoRow, standIns := [], harness := (true, "a220ba03a35a92fe3d3827c2ed9372c377a40a33f357c22bef491dc7485db849"), looks := true }, kinds := [], alts := [], laidByText := true, laidKinds := [.data, .data, .data], laidTests := true, laidLooks := .later }
def DrupTellsUptoCardSaid : Prop := Claim7.holds Tryd.pinned (.plain (OpenSpec.upto drupTellsSpec)) drupTellsUptoCard

/-- THE SECOND FORM's CARD OF 'vidimuslaw05.DrupChecks'. -/
def drupChecksUptoCard : Claim7 := { stood := { row := drupChecksUptoRow, standIns := [], harness := (true, "a220ba03a35a92fe3d3827c2ed9372c377a40a33f357c22bef491dc7485db849"), looks := true }, kinds := [], alts := [], laidByText := true, laidKinds := [.data, .data, .data], laidTests := true, laidLooks := .later }
def DrupChecksUptoCardSaid : Prop := Claim7.holds Tryd.pinned (.plain (OpenSpec.upto drupChecksSpec)) drupChecksUptoCard

/-- THE SECOND FORM's CARD OF 'vidimuslaw05.DrupSound'. -/
def drupSoundUptoCard : Claim7 := { stood := { row := drupSoundUptoRow, standIns := [], harness := (true, "a220ba03a35a92fe3d3827c2ed9372c377a40a33f357c22bef491dc7485db849"), looks := true }, kinds := [], alts := [], laidByText := true, laidKinds := [.data, .data, .data], laidTests := true, laidLooks := .later }
def DrupSoundUptoCardSaid : Prop := Claim7.holds Tryd.pinned (.plain (OpenSpec.upto drupSoundSpec)) drupSoundUptoCard

/-- THE SECOND FORM's CARD OF 'vidimuslaw05.DrupBack'. -/
def drupBackUptoCard : Claim7 := { stood := { row := drupBackUptoRow, standIns := [], harness := (true, "a220ba03a35a92fe3d3827c2ed9372c377a40a33f357c22bef491dc7485db849"), looks := true }, kinds := [], alts := [], laidByText := true, laidKinds := [.data, .data, .data], laidTests := true, laidLooks := .later }
def DrupBackUptoCardSaid : Prop := Claim7.holds Tryd.pinned (.plain (OpenSpec.upto drupBackSpec)) drupBackUptoCard

/-- THE SECOND FORM's CARD OF 'vidimuslaw05.DrupApart'. -/
def drupApartUptoCard : Claim7 := { stood := { row := drupApartUptoRow, standIns := [], harness := (true, "a220ba03a35a92fe3d3827c2ed9372c377a40a33f357c22bef491dc7485db849"), looks := true }, kinds := [], alts := [], laidByText := true, laidKinds := [.data, .data, .data], laidTests := true, laidLooks := .later }
def DrupApartUptoCardSaid : Prop := Claim7.holds Tryd.pinned (.plain (OpenSpec.upto drupApartSpec)) drupApartUptoCard
end Rows
end Go.Proofs.YtplcabecbofjpaaDoor
