/-
  DERIVED. GIVEN WITH THE SEED: THE CARDS: each row of YtgeahpfdaehjaaaGreatDoorRows.lean that lists a variable, with what it lists TIED to the program's text (the seventh form; the later family's looks); each row that meets fmt, with fmt's text TOLD by the authors' own Lean function (tested against real Go, not proved from fmt's source: count such statements apart). THE CARD IS WHAT COUNTS. Prove the row's statement (the work); the ties are given (YtgeahpfdaehjaaaGreatDoorTie.lean); close each card by the builder's one call (the guide's Derived/Test/ToyasCard.lean, 'card_holds'). Laid BY PROGRAM, IN A SANDBOX (cutbox-door.mjs). By AI agents, Wed Nov 11 2026. No macro, syntax, notation, axiom, sorry.
-/
import Derived.Test.YtgeahpfdaehjaaaGreatDoorRows
import GoSem.ClaimSeven
namespace Go.Proofs.YtgeahpfdaehjaaaGreatDoor
namespace Rows

/-- THE TIED CARD OF 'nogginlaw24.SenderTries'. -/
def senderTriesCard : Claim7 := { stood := { row := senderTriesRow, standIns := [], harness := (true, "82f461b95cae6a7bfb9331b2ef83bcc63daab7b4ed42e955ff98a0604a979d48"), looks := true }, kinds := [], alts := [], laidByText := true, laidKinds := [.data, .data, .data, .sentinel, .sentinel], laidTests := true, laidLooks := .later }
def SenderTriesCardSaid : Prop := Claim7.holds Tryz.pinned (.plain (OpenSpec.ofChange senderTriesSpec)) senderTriesCard

/-- THE TIED CARD OF 'nogginlaw24.SenderOrders'. -/
def senderOrdersCard : Claim7 := { stood := { row := senderOrdersRow, standIns := [], harness := (true, "82f461b95cae6a7bfb9331b2ef83bcc63daab7b4ed42e955ff98a0604a979d48"), looks := true }, kinds := [], alts := [], laidByText := true, laidKinds := [.data, .data, .data, .sentinel, .sentinel], laidTests := true, laidLooks := .later }
def SenderOrdersCardSaid : Prop := Claim7.holds Tryz.pinned (.plain (OpenSpec.ofChange senderOrdersSpec)) senderOrdersCard

/-- THE SECOND FORM's CARD OF 'nogginlaw24.SenderTries'. -/
def senderTriesUptoCard : Claim7 := { stood := { row := senderTriesUptoRow, standIns := [], harness := (true, "82f461b95cae6a7bfb9331b2ef83bcc63daab7b4ed42e955ff98a0604a979d48"), looks := true }, kinds := [], alts := [], laidByText := true, laidKinds := [.data, .data, .data, .sentinel, .sentinel], laidTests := true, laidLooks := .later }
def SenderTriesUptoCardSaid : Prop := Claim7.holds Tryz.pinned (.plain (OpenSpec.upto senderTriesSpec)) senderTriesUptoCard

/-- THE SECOND FORM's CARD OF 'nogginlaw24.SenderOrders'. -/
def senderOrdersUptoCard : Claim7 := { stood := { row := senderOrdersUptoRow, standIns := [], harness := (true, "82f461b95cae6a7bfb9331b2ef83bcc63daab7b4ed42e955ff98a0604a979d48"), looks := true }, kinds := [], alts := [], laidByText := true, laidKinds := [.data, .data, .data, .sentinel, .sentinel], laidTests := true, laidLooks := .later }
def SenderOrdersUptoCardSaid : Prop := Claim7.holds Tryz.pinned (.plain (OpenSpec.upto senderOrdersSpec)) senderOrdersUptoCard
end Rows
end Go.Proofs.YtgeahpfdaehjaaaGreatDoor
