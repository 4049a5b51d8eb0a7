/-
  DERIVED. GIVEN WITH THE SEED: THE CARDS: each row of YthcjcjfgdgnljaaDoorRows.lean that lists a variable, with what it lists TIED to the program's text (the seventh form; the later family's looks); each row that meets fmt, with fmt's text TOLD by the authors' own Lean function (tested against real Go, not proved from fmt's source: count such statements apart). THE CARD IS WHAT COUNTS. Prove the row's statement (the work); the ties are given (YthcjcjfgdgnljaaDoorTie.lean); close each card by the builder's one call (the guide's Derived/Test/ToyasCard.lean, 'card_holds'). Laid BY PROGRAM, IN A SANDBOX (cutbox-door.mjs). By AI agents, Wed Nov 11 2026. No macro, syntax, notation, axiom, sorry.
-/
import Derived.Test.YthcjcjfgdgnljaaDoorRows
import GoSem.ClaimSeven
namespace Go.Proofs.YthcjcjfgdgnljaaDoor
namespace Rows

/-- THE TIED CARD OF 'stewardkeep.Longer'. -/
def longerCard : Claim7 := { stood := { row := longerRow, standIns := [], harness := (true, "ce623a79b4a718b5bd4f8d60c33672ac53e7abc559fc892ab938f6c33e5ba520"), looks := false }, kinds := [], alts := [], laidByText := true, laidKinds := [.data, .data, .data], laidTests := true, laidLooks := .later }
def LongerCardSaid : Prop := Claim7.holds Tryd.pinned (.plain (OpenSpec.ofChange longerSpec)) longerCard

/-- THE TIED CARD OF 'stewardkeep.Turned'. -/
def turnedCard : Claim7 := { stood := { row := turnedRow, standIns := [], harness := (true, "ce623a79b4a718b5bd4f8d60c33672ac53e7abc559fc892ab938f6c33e5ba520"), looks := false }, kinds := [], alts := [], laidByText := true, laidKinds := [.data, .data, .data], laidTests := true, laidLooks := .later }
def TurnedCardSaid : Prop := Claim7.holds Tryd.pinned (.plain (OpenSpec.ofChange turnedSpec)) turnedCard

/-- THE TIED CARD OF 'stewardkeep.Faithful'. -/
def faithfulCard : Claim7 := { stood := { row := faithfulRow, standIns := [], harness := (true, "ce623a79b4a718b5bd4f8d60c33672ac53e7abc559fc892ab938f6c33e5ba520"), looks := false }, kinds := [], alts := [], laidByText := true, laidKinds := [.data, .data, .data], laidTests := true, laidLooks := .later }
def FaithfulCardSaid : Prop := Claim7.holds Tryd.pinned (.plain (OpenSpec.ofChange faithfulSpec)) faithfulCard

/-- THE TIED CARD OF 'stewardkeep.Roomy'. -/
def roomyCard : Claim7 := { stood := { row := roomyRow, standIns := [], harness := (true, "ce623a79b4a718b5bd4f8d60c33672ac53e7abc559fc892ab938f6c33e5ba520"), looks := false }, kinds := [], alts := [], laidByText := true, laidKinds := [.data, .data, .data], laidTests := true, laidLooks := .later }
def RoomyCardSaid : Prop := Claim7.holds Tryd.pinned (.plain (OpenSpec.ofChange roomySpec)) roomyCard

/-- THE TIED CARD OF 'stewardkeep.Settled'. -/
def settledCard : Claim7 := { stood := { row := settledRow, standIns := [], harness := (true, "ce623a79b4a718b5bd4f8d60c33672ac53e7abc559fc892ab938f6c33e5ba520"), looks := false }, kinds := [], alts := [], laidByText := true, laidKinds := [.data, .data, .data], laidTests := true, laidLooks := .later }
def SettledCardSaid : Prop := Claim7.holds Tryd.pinned (.plain (OpenSpec.ofChange settledSpec)) settledCard

/-- THE TIED CARD OF 'stewardkeep.Ends'. -/
def endsCard : Claim7 := { stood := { row := endsRow, standIns := [], harness := (true, "ce623a79b4a718b5bd4f8d60c33672ac53e7abc559fc892ab938f6c33e5ba520"), looks := false }, kinds := [], alts := [], laidByText := true, laidKinds := [.data, .data, .data], laidTests := true, laidLooks := .later }
def EndsCardSaid : Prop := Claim7.holds Tryd.pinned (.plain (OpenSpec.ofChange endsSpec)) endsCard

/-- THE SECOND FORM's CARD OF 'stewardkeep.Longer'. -/
def longerUptoCard : Claim7 := { stood := { row := longerUptoRow, standIns := [], harness := (true, "ce623a79b4a718b5bd4f8d60c33672ac53e7abc559fc892ab938f6c33e5ba520"), looks := false }, kinds := [], alts := [], laidByText := true, laidKinds := [.data, .data, .data], laidTests := true, laidLooks := .later }
def LongerUptoCardSaid : Prop := Claim7.holds Tryd.pinned (.plain (OpenSpec.upto longerSpec)) longerUptoCard

/-- THE SECOND FORM's CARD OF 'stewardkeep.Turned'. -/
def turnedUptoCard : Claim7 := { stood := { row := turnedUptoRow, standIns := [], harness := (true, "ce623a79b4a718b5bd4f8d60c33672ac53e7abc559fc892ab938f6c33e5ba520"), looks := false }, kinds := [], alts := [], laidByText := true, laidKinds := [.data, .data, .data], laidTests := true, laidLooks := .later }
def TurnedUptoCardSaid : Prop := Claim7.holds Tryd.pinned (.plain (OpenSpec.upto turnedSpec)) turnedUptoCard

/-- THE SECOND FORM's CARD OF 'stewardkeep.Faithful'. -/
def faithfulUptoCard : Claim7 := { stood := { row := faithfulUptoRow, standIns := [], harness := (true, "ce623a79b4a718b5bd4f8d60c33672ac53e7abc559fc892ab938f6c33e5ba520"), looks := false }, kinds := [], alts := [], laidByText := true, laidKinds := [.data, .data, .data], laidTests := true, laidLooks := .later }
def FaithfulUptoCardSaid : Prop := Claim7.holds Tryd.pinned (.plain (OpenSpec.upto faithfulSpec)) faithfulUptoCard

/-- THE SECOND FORM's CARD OF 'stewardkeep.Roomy'. -/
def roomyUptoCard : Claim7 := { stood := { row := roomyUptoRow, standIns := [], harness := (true, "ce623a79b4a718b5bd4f8d60c33672ac53e7abc559fc892ab938f6c33e5ba520"), looks := false }, kinds := [], alts := [], laidByText := true, laidKinds := [.data, .data, .data], laidTests := true, laidLooks := .later }
def RoomyUptoCardSaid : Prop := Claim7.holds Tryd.pinned (.plain (OpenSpec.upto roomySpec)) roomyUptoCard

/-- THE SECOND FORM's CARD OF 'stewardkeep.Settled'. -/
def settledUptoCard : Claim7 := { stood := { row := settledUptoRow, standIns := [], harness := (true, "ce623a79b4a718b5bd4f8d60c33672ac53e7abc559fc892ab938f6c33e5ba520"), looks := false }, kinds := [], alts := [], laidByText := true, laidKinds := [.data, .data, .data], laidTests := true, laidLooks := .later }
def SettledUptoCardSaid : Prop := Claim7.holds Tryd.pinned (.plain (OpenSpec.upto settledSpec)) settledUptoCard

/-- THE SECOND FORM's CARD OF 'stewardkeep.Ends'. -/
def endsUptoCard : Claim7 := { stood := { row := endsUptoRow, standIns := [], harness := (true, "ce623a79b4a718b5bd4f8d60c33672ac53e7abc559fc892ab938f6c33e5ba520"), looks := false }, kinds := [], alts := [], laidByText := true, laidKinds := [.data, .data, .data], laidTests := true, laidLooks := .later }
def EndsUptoCardSaid : Prop := Claim7.holds Tryd.pinned (.plain (OpenSpec.upto endsSpec)) endsUptoCard
end Rows
end Go.Proofs.YthcjcjfgdgnljaaDoor
