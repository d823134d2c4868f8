/-
  DERIVED. GIVEN WITH THE SEED: THE CARDS: each row of YtedhciolnekpaaaGreatDoorRows.lean that lists a variable, with what it lists TIED to the program's text (the seventh form; the later family's looks); each row that meets fmt, with fmt's text TOLD by the authors' own Lean function (tested against real Go, not proved from fmt's source: count such statements apart). THE CARD IS WHAT COUNTS. Prove the row's statement (the work); the ties are given (YtedhciolnekpaaaGreatDoorTie.lean); close each card by the builder's one call (the guide's Derived/Test/ToyasCard.lean, 'card_holds'). Laid BY PROGRAM, IN A SANDBOX (cutbox-door.mjs). By AI agents, Wed Nov 11 2026. No macro, syntax, notation, axiom, sorry.
-/
import Derived.Test.YtedhciolnekpaaaGreatDoorRows
import GoSem.ClaimSeven
namespace Go.Proofs.YtedhciolnekpaaaGreatDoor
namespace Rows

/-- THE TIED CARD OF 'nogginlaw20.WindowPlays'. -/
def windowPlaysCard : Claim7 := { stood := { row := windowPlaysRow, standIns := [], harness := (true, "7210e2eab138d9afe0ceb7338432d8cbdd7420d9388373ab78d28826bfbc04a4"), looks := true }, kinds := [], alts := [], laidByText := true, laidKinds := [.data, .data, .data, .sentinel, .sentinel], laidTests := true, laidLooks := .later }
def WindowPlaysCardSaid : Prop := Claim7.holds Tryz.pinned (.plain (OpenSpec.ofChange windowPlaysSpec)) windowPlaysCard

/-- THE TIED CARD OF 'nogginlaw20.WindowWhole'. -/
def windowWholeCard : Claim7 := { stood := { row := windowWholeRow, standIns := [], harness := (true, "7210e2eab138d9afe0ceb7338432d8cbdd7420d9388373ab78d28826bfbc04a4"), looks := true }, kinds := [], alts := [], laidByText := true, laidKinds := [.data, .data, .data, .sentinel, .sentinel], laidTests := true, laidLooks := .later }
def WindowWholeCardSaid : Prop := Claim7.holds Tryz.pinned (.plain (OpenSpec.ofChange windowWholeSpec)) windowWholeCard

/-- THE SECOND FORM's CARD OF 'nogginlaw20.WindowPlays'. -/
def windowPlaysUptoCard : Claim7 := { stood := { row := windowPlaysUptoRow, standIns := [], harness := (true, "7210e2eab138d9afe0ceb7338432d8cbdd7420d9388373ab78d28826bfbc04a4"), looks := true }, kinds := [], alts := [], laidByText := true, laidKinds := [.data, .data, .data, .sentinel, .sentinel], laidTests := true, laidLooks := .later }
def WindowPlaysUptoCardSaid : Prop := Claim7.holds Tryz.pinned (.plain (OpenSpec.upto windowPlaysSpec)) windowPlaysUptoCard

/-- THE SECOND FORM's CARD OF 'nogginlaw20.WindowWhole'. -/
def windowWholeUptoCard : Claim7 := { stood := { row := windowWholeUptoRow, standIns := [], harness := (true, "7210e2eab138d9afe0ceb7338432d8cbdd7420d9388373ab78d28826bfbc04a4"), looks := true }, kinds := [], alts := [], laidByText := true, laidKinds := [.data, .data, .data, .sentinel, .sentinel], laidTests := true, laidLooks := .later }
def WindowWholeUptoCardSaid : Prop := Claim7.holds Tryz.pinned (.plain (OpenSpec.upto windowWholeSpec)) windowWholeUptoCard
end Rows
end Go.Proofs.YtedhciolnekpaaaGreatDoor
