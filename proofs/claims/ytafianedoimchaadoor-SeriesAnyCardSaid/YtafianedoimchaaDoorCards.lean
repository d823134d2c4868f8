/-
  DERIVED. GIVEN WITH THE SEED: THE CARDS: each row of YtafianedoimchaaDoorRows.lean that lists a variable, with what it lists TIED to the program's text (the seventh form; the later family's looks); each row that meets fmt, with fmt's text TOLD by the authors' own Lean function (tested against real Go, not proved from fmt's source: count such statements apart). THE CARD IS WHAT COUNTS. Prove the row's statement (the work); the ties are given (YtafianedoimchaaDoorTie.lean); close each card by the builder's one call (the guide's Derived/Test/ToyasCard.lean, 'card_holds'). Laid BY PROGRAM, IN A SANDBOX (cutbox-door.mjs). By AI agents, Wed Nov 11 2026. No macro, syntax, notation, axiom, sorry.
-/
import Derived.Test.YtafianedoimchaaDoorRows
import GoSem.ClaimSeven
namespace Go.Proofs.YtafianedoimchaaDoor
namespace Rows

/-- THE TIED CARD OF 'nogginlaw05.SeriesAny'. -/
def seriesAnyCard : Claim7 := { stood := { row := seriesAnyRow, standIns := [], harness := (true, "b78b102d2ee0db58b3f0ee3c5de16cd019f0f4b0efd8e45bb124e93450ff5dcf"), looks := true }, kinds := [], alts := [], laidByText := true, laidKinds := [.data, .data, .data, .sentinel, .sentinel], laidTests := true, laidLooks := .later }
def SeriesAnyCardSaid : Prop := Claim7.holds Tryd.pinned (.plain (OpenSpec.ofChange seriesAnySpec)) seriesAnyCard

/-- THE SECOND FORM's CARD OF 'nogginlaw05.SeriesAny'. -/
def seriesAnyUptoCard : Claim7 := { stood := { row := seriesAnyUptoRow, standIns := [], harness := (true, "b78b102d2ee0db58b3f0ee3c5de16cd019f0f4b0efd8e45bb124e93450ff5dcf"), looks := true }, kinds := [], alts := [], laidByText := true, laidKinds := [.data, .data, .data, .sentinel, .sentinel], laidTests := true, laidLooks := .later }
def SeriesAnyUptoCardSaid : Prop := Claim7.holds Tryd.pinned (.plain (OpenSpec.upto seriesAnySpec)) seriesAnyUptoCard
end Rows
end Go.Proofs.YtafianedoimchaaDoor
