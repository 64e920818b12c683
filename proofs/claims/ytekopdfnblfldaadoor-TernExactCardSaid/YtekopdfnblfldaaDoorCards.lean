/-
  DERIVED. GIVEN WITH THE SEED: THE CARDS: each row of YtekopdfnblfldaaDoorRows.lean that lists a variable, with what it lists TIED to the program's text (the seventh form; the later family's looks); each row that meets fmt, with fmt's text TOLD by the authors' own Lean function (tested against real Go, not proved from fmt's source: count such statements apart). THE CARD IS WHAT COUNTS. Prove the row's statement (the work); the ties are given (YtekopdfnblfldaaDoorTie.lean); close each card by the builder's one call (the guide's Derived/Test/ToyasCard.lean, 'card_holds'). Laid BY PROGRAM, IN A SANDBOX (cutbox-door.mjs). By AI agents, Wed Nov 11 2026. No macro, syntax, notation, axiom, sorry.
-/
import Derived.Test.YtekopdfnblfldaaDoorRows
import GoSem.ClaimSeven
namespace Go.Proofs.YtekopdfnblfldaaDoor
namespace Rows

/-- THE TIED CARD OF 'vidimuslaw09.TernTells'. -/
def ternTellsCard : Claim7 := { stood := { row := ternTellsRow, standIns := [], harness := (true, "f30294f59b45c5fa3824fb06c4523b627df8b2b2fe8b3ef671d80b58b56f38be"), looks := false }, kinds := [], alts := [], laidByText := true, laidKinds := [.data], laidTests := true, laidLooks := .later }
def TernTellsCardSaid : Prop := Claim7.holds Tryd.pinned (.plain (OpenSpec.ofChange ternTellsSpec)) ternTellsCard

/-- THE TIED CARD OF 'vidimuslaw09.TernSteps'. -/
def ternStepsCard : Claim7 := { stood := { row := ternStepsRow, standIns := [], harness := (true, "f30294f59b45c5fa3824fb06c4523b627df8b2b2fe8b3ef671d80b58b56f38be"), looks := false }, kinds := [], alts := [], laidByText := true, laidKinds := [.data], laidTests := true, laidLooks := .later }
def TernStepsCardSaid : Prop := Claim7.holds Tryd.pinned (.plain (OpenSpec.ofChange ternStepsSpec)) ternStepsCard

/-- THE TIED CARD OF 'vidimuslaw09.TernBelow'. -/
def ternBelowCard : Claim7 := { stood := { row := ternBelowRow, standIns := [], harness := (true, "f30294f59b45c5fa3824fb06c4523b627df8b2b2fe8b3ef671d80b58b56f38be"), looks := false }, kinds := [], alts := [], laidByText := true, laidKinds := [.data], laidTests := true, laidLooks := .later }
def TernBelowCardSaid : Prop := Claim7.holds Tryd.pinned (.plain (OpenSpec.ofChange ternBelowSpec)) ternBelowCard

/-- THE TIED CARD OF 'vidimuslaw09.TernTwo'. -/
def ternTwoCard : Claim7 := { stood := { row := ternTwoRow, standIns := [], harness := (true, "f30294f59b45c5fa3824fb06c4523b627df8b2b2fe8b3ef671d80b58b56f38be"), looks := false }, kinds := [], alts := [], laidByText := true, laidKinds := [.data], laidTests := true, laidLooks := .later }
def TernTwoCardSaid : Prop := Claim7.holds Tryd.pinned (.plain (OpenSpec.ofChange ternTwoSpec)) ternTwoCard

/-- THE TIED CARD OF 'vidimuslaw09.TernOrder'. -/
def ternOrderCard : Claim7 := { stood := { row := ternOrderRow, standIns := [], harness := (true, "f30294f59b45c5fa3824fb06c4523b627df8b2b2fe8b3ef671d80b58b56f38be"), looks := false }, kinds := [], alts := [], laidByText := true, laidKinds := [.data], laidTests := true, laidLooks := .later }
def TernOrderCardSaid : Prop := Claim7.holds Tryd.pinned (.plain (OpenSpec.ofChange ternOrderSpec)) ternOrderCard

/-- THE TIED CARD OF 'vidimuslaw09.TernBelows'. -/
def ternBelowsCard : Claim7 := { stood := { row := ternBelowsRow, standIns := [], harness := (true, "f30294f59b45c5fa3824fb06c4523b627df8b2b2fe8b3ef671d80b58b56f38be"), looks := false }, kinds := [], alts := [], laidByText := true, laidKinds := [.data], laidTests := true, laidLooks := .later }
def TernBelowsCardSaid : Prop := Claim7.holds Tryd.pinned (.plain (OpenSpec.ofChange ternBelowsSpec)) ternBelowsCard

/-- THE TIED CARD OF 'vidimuslaw09.TernExact'. -/
def ternExactCard : Claim7 := { stood := { row := ternExactRow, standIns := [], harness := (true, "f30294f59b45c5fa3824fb06c4523b627df8b2b2fe8b3ef671d80b58b56f38be"), looks := false }, kinds := [], alts := [], laidByText := true, laidKinds := [.data], laidTests := true, laidLooks := .later }
def TernExactCardSaid : Prop := Claim7.holds Tryd.pinned (.plain (OpenSpec.ofChange ternExactSpec)) ternExactCard

/-- THE SECOND FORM's CARD OF 'vidimuslaw09.TernTells'. -/
def ternTellsUptoCard : Claim7 := { stood := { row := ternTellsUptoRow, standIns := [], harness := (true, "f30294f59b45c5fa3824fb06c4523b627df8b2b2fe8b3ef671d80b58b56f38be"), looks := false }, kinds := [], alts := [], laidByText := true, laidKinds := [.data], laidTests := true, laidLooks := .later }
def TernTellsUptoCardSaid : Prop := Claim7.holds Tryd.pinned (.plain (OpenSpec.upto ternTellsSpec)) ternTellsUptoCard

/-- THE SECOND FORM's CARD OF 'vidimuslaw09.TernSteps'. -/
def ternStepsUptoCard : Claim7 := { stood := { row := ternStepsUptoRow, standIns := [], harness := (true, "f30294f59b45c5fa3824fb06c4523b627df8b2b2fe8b3ef671d80b58b56f38be"), looks := false }, kinds := [], alts := [], laidByText := true, laidKinds := [.data], laidTests := true, laidLooks := .later }
def TernStepsUptoCardSaid : Prop := Claim7.holds Tryd.pinned (.plain (OpenSpec.upto ternStepsSpec)) ternStepsUptoCard

/-- THE SECOND FORM's CARD OF 'vidimuslaw09.TernBelow'. -/
def ternBelowUptoCard : Claim7 := { stood := { row := ternBelowUptoRow, standIns := [], harness := (true, "f30294f59b45c5fa3824fb06c4523b627df8b2b2fe8b3ef671d80b58b56f38be"), looks := false }, kinds := [], alts := [], laidByText := true, laidKinds := [.data], laidTests := true, laidLooks := .later }
def TernBelowUptoCardSaid : Prop := Claim7.holds Tryd.pinned (.plain (OpenSpec.upto ternBelowSpec)) ternBelowUptoCard

/-- THE SECOND FORM's CARD OF 'vidimuslaw09.TernTwo'. -/
def ternTwoUptoCard : Claim7 := { stood := { row := ternTwoUptoRow, standIns := [], harness := (true, "f30294f59b45c5fa3824fb06c4523b627df8b2b2fe8b3ef671d80b58b56f38be"), looks := false }, kinds := [], alts := [], laidByText := true, laidKinds := [.data], laidTests := true, laidLooks := .later }
def TernTwoUptoCardSaid : Prop := Claim7.holds Tryd.pinned (.plain (OpenSpec.upto ternTwoSpec)) ternTwoUptoCard

/-- THE SECOND FORM's CARD OF 'vidimuslaw09.TernOrder'. -/
def ternOrderUptoCard : Claim7 := { stood := { row := ternOrderUptoRow, standIns := [], harness := (true, "f30294f59b45c5fa3824fb06c4523b627df8b2b2fe8b3ef671d80b58b56f38be"), looks := false }, kinds := [], alts := [], laidByText := true, laidKinds := [.data], laidTests := true, laidLooks := .later }
def TernOrderUptoCardSaid : Prop := Claim7.holds Tryd.pinned (.plain (OpenSpec.upto ternOrderSpec)) ternOrderUptoCard

/-- THE SECOND FORM's CARD OF 'vidimuslaw09.TernBelows'. -/
def ternBelowsUptoCard : Claim7 := { stood := { row := ternBelowsUptoRow, standIns := [], harness := (true, "f30294f59b45c5fa3824fb06c4523b627df8b2b2fe8b3ef671d80b58b56f38be"), looks := false }, kinds := [], alts := [], laidByText := true, laidKinds := [.data], laidTests := true, laidLooks := .later }
def TernBelowsUptoCardSaid : Prop := Claim7.holds Tryd.pinned (.plain (OpenSpec.upto ternBelowsSpec)) ternBelowsUptoCard

/-- THE SECOND FORM's CARD OF 'vidimuslaw09.TernExact'. -/
def ternExactUptoCard : Claim7 := { stood := { row := ternExactUptoRow, standIns := [], harness := (true, "f30294f59b45c5fa3824fb06c4523b627df8b2b2fe8b3ef671d80b58b56f38be"), looks := false }, kinds := [], alts := [], laidByText := true, laidKinds := [.data], laidTests := true, laidLooks := .later }
def TernExactUptoCardSaid : Prop := Claim7.holds Tryd.pinned (.plain (OpenSpec.upto ternExactSpec)) ternExactUptoCard
end Rows
end Go.Proofs.YtekopdfnblfldaaDoor
