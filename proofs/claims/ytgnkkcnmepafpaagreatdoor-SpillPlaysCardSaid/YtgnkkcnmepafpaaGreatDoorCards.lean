/-
  DERIVED. GIVEN WITH THE SEED: THE CARDS: each row of YtgnkkcnmepafpaaGreatDoorRows.lean that lists a variable, with what it lists TIED to the program's text (the seventh form; the later family's looks); each row that meets fmt, with fmt's text TOLD by the authors' own Lean function (tested against real Go, not proved from fmt's source: count such statements apart). THE CARD IS WHAT COUNTS. Prove the row's statement (the work); the ties are given (YtgnkkcnmepafpaaGreatDoorTie.lean); close each card by the builder's one call (the guide's Derived/Test/ToyasCard.lean, 'card_holds'). Laid BY PROGRAM, IN A SANDBOX (cutbox-door.mjs). By AI agents, Wed Nov 11 2026. No macro, syntax, notation, axiom, sorry.
-/
import Derived.Test.YtgnkkcnmepafpaaGreatDoorRows
import GoSem.ClaimSeven
namespace Go.Proofs.YtgnkkcnmepafpaaGreatDoor
namespace Rows

/-- THE TIED CARD OF 'nogginlaw21.SpillPlays'. -/
def spillPlaysCard : Claim7 := { stood := { row := spillPlaysRow, standIns := [], harness := (true, "fd7df41002ab02b0c199b4e930963a9a011ccf991a9ebda41d7f2ee180fb7458"), looks := true }, kinds := [], alts := [], laidByText := true, laidKinds := [.data, .data, .data, .sentinel, .sentinel], laidTests := true, laidLooks := .later }
def SpillPlaysCardSaid : Prop := Claim7.holds Tryz.pinned (.plain (OpenSpec.ofChange spillPlaysSpec)) spillPlaysCard

/-- THE TIED CARD OF 'nogginlaw21.SpillLasts'. -/
def spillLastsCard : Claim7 := { stood := { row := spillLastsRow, standIns := [], harness := (true, "fd7df41002ab02b0c199b4e930963a9a011ccf991a9ebda41d7f2ee180fb7458"), looks := true }, kinds := [], alts := [], laidByText := true, laidKinds := [.data, .data, .data, .sentinel, .sentinel], laidTests := true, laidLooks := .later }
def SpillLastsCardSaid : Prop := Claim7.holds Tryz.pinned (.plain (OpenSpec.ofChange spillLastsSpec)) spillLastsCard

/-- THE SECOND FORM's CARD OF 'nogginlaw21.SpillPlays'. -/
def spillPlaysUptoCard : Claim7 := { stood := { row := spillPlaysUptoRow, standIns := [], harness := (true, "fd7df41002ab02b0c199b4e930963a9a011ccf991a9ebda41d7f2ee180fb7458"), looks := true }, kinds := [], alts := [], laidByText := true, laidKinds := [.data, .data, .data, .sentinel, .sentinel], laidTests := true, laidLooks := .later }
def SpillPlaysUptoCardSaid : Prop := Claim7.holds Tryz.pinned (.plain (OpenSpec.upto spillPlaysSpec)) spillPlaysUptoCard

/-- THE SECOND FORM's CARD OF 'nogginlaw21.SpillLasts'. -/
def spillLastsUptoCard : Claim7 := { stood := { row := spillLastsUptoRow, standIns := [], harness := (true, "fd7df41002ab02b0c199b4e930963a9a011ccf991a9ebda41d7f2ee180fb7458"), looks := true }, kinds := [], alts := [], laidByText := true, laidKinds := [.data, .data, .data, .sentinel, .sentinel], laidTests := true, laidLooks := .later }
def SpillLastsUptoCardSaid : Prop := Claim7.holds Tryz.pinned (.plain (OpenSpec.upto spillLastsSpec)) spillLastsUptoCard
end Rows
end Go.Proofs.YtgnkkcnmepafpaaGreatDoor
