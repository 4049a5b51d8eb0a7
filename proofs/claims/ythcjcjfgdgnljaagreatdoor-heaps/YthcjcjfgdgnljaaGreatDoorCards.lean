/-
  DERIVED. GIVEN WITH THE SEED: THE CARDS: each row of YthcjcjfgdgnljaaGreatDoorRows.lean that lists a variable, with what it lists TIED to the program's text (the seventh form; the later family's looks); each row that meets fmt, with fmt's text TOLD by the authors' own Lean function (tested against real Go, not proved from fmt's source: count such statements apart). THE CARD IS WHAT COUNTS. Prove the row's statement (the work); the ties are given (YthcjcjfgdgnljaaGreatDoorTie.lean); close each card by the builder's one call (the guide's Derived/Test/ToyasCard.lean, 'card_holds'). Laid BY PROGRAM, IN A SANDBOX (cutbox-door.mjs). By AI agents, Wed Nov 11 2026. No macro, syntax, notation, axiom, sorry.
-/
import Derived.Test.YthcjcjfgdgnljaaGreatDoorRows
import GoSem.ClaimSeven
namespace Go.Proofs.YthcjcjfgdgnljaaGreatDoor
namespace Rows

/-- THE TIED CARD OF 'stewardlaw.Heaps'. -/
def heapsCard : Claim7 := { stood := { row := heapsRow, standIns := [], harness := (true, "66c67d9dc5af41ecc9d6fd661eb5bbd6bc0ab4dbf1c8d6cddbb930b57bca8b7d"), looks := false }, kinds := [], alts := [], laidByText := true, laidKinds := [.data, .data, .data], laidTests := true, laidLooks := .later }
def HeapsCardSaid : Prop := Claim7.holds Tryz.pinned (.plain (OpenSpec.ofChange heapsSpec)) heapsCard

/-- THE TIED CARD OF 'stewardlaw.Plays'. -/
def playsCard : Claim7 := { stood := { row := playsRow, standIns := [], harness := (true, "66c67d9dc5af41ecc9d6fd661eb5bbd6bc0ab4dbf1c8d6cddbb930b57bca8b7d"), looks := false }, kinds := [], alts := [], laidByText := true, laidKinds := [.data, .data, .data], laidTests := true, laidLooks := .later }
def PlaysCardSaid : Prop := Claim7.holds Tryz.pinned (.plain (OpenSpec.ofChange playsSpec)) playsCard

/-- THE TIED CARD OF 'stewardlaw.Execs'. -/
def execsCard : Claim7 := { stood := { row := execsRow, standIns := [], harness := (true, "66c67d9dc5af41ecc9d6fd661eb5bbd6bc0ab4dbf1c8d6cddbb930b57bca8b7d"), looks := false }, kinds := [], alts := [], laidByText := true, laidKinds := [.data, .data, .data], laidTests := true, laidLooks := .later }
def ExecsCardSaid : Prop := Claim7.holds Tryz.pinned (.plain (OpenSpec.ofChange execsSpec)) execsCard

/-- THE SECOND FORM's CARD OF 'stewardlaw.Heaps'. -/
def heapsUptoCard : Claim7 := { stood := { row := heapsUptoRow, standIns := [], harness := (true, "66c67d9dc5af41ecc9d6fd661eb5bbd6bc0ab4dbf1c8d6cddbb930b57bca8b7d"), looks := false }, kinds := [], alts := [], laidByText := true, laidKinds := [.data, .data, .data], laidTests := true, laidLooks := .later }
def HeapsUptoCardSaid : Prop := Claim7.holds Tryz.pinned (.plain (OpenSpec.upto heapsSpec)) heapsUptoCard

/-- THE SECOND FORM's CARD OF 'stewardlaw.Plays'. -/
def playsUptoCard : Claim7 := { stood := { row := playsUptoRow, standIns := [], harness := (true, "66c67d9dc5af41ecc9d6fd661eb5bbd6bc0ab4dbf1c8d6cddbb930b57bca8b7d"), looks := false }, kinds := [], alts := [], laidByText := true, laidKinds := [.data, .data, .data], laidTests := true, laidLooks := .later }
def PlaysUptoCardSaid : Prop := Claim7.holds Tryz.pinned (.plain (OpenSpec.upto playsSpec)) playsUptoCard

/-- THE SECOND FORM's CARD OF 'stewardlaw.Execs'. -/
def execsUptoCard : Claim7 := { stood := { row := execsUptoRow, standIns := [], harness := (true, "66c67d9dc5af41ecc9d6fd661eb5bbd6bc0ab4dbf1c8d6cddbb930b57bca8b7d"), looks := false }, kinds := [], alts := [], laidByText := true, laidKinds := [.data, .data, .data], laidTests := true, laidLooks := .later }
def ExecsUptoCardSaid : Prop := Claim7.holds Tryz.pinned (.plain (OpenSpec.upto execsSpec)) execsUptoCard
end Rows
end Go.Proofs.YthcjcjfgdgnljaaGreatDoor
