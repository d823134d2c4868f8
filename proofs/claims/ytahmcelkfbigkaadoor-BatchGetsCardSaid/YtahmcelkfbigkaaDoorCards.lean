/-
  DERIVED. GIVEN WITH THE SEED: THE CARDS: each row of YtahmcelkfbigkaaDoorRows.lean that lists a variable, with what it lists TIED to the program's text (the seventh form; the later family's looks); each row that meets fmt, with fmt's text TOLD by the authors' own Lean function (tested against real Go, not proved from fmt's source: count such statements apart). THE CARD IS WHAT COUNTS. Prove the row's statement (the work); the ties are given (YtahmcelkfbigkaaDoorTie.lean); close each card by the builder's one call (the guide's Derived/Test/ToyasCard.lean, 'card_holds'). Laid BY PROGRAM, IN A SANDBOX (cutbox-door.mjs). By AI agents, Wed Nov 11 2026. No macro, syntax, notation, axiom, sorry.
-/
import Derived.Test.YtahmcelkfbigkaaDoorRows
import GoSem.ClaimSeven
namespace Go.Proofs.YtahmcelkfbigkaaDoor
namespace Rows

/-- THE TIED CARD OF 'nogginlaw07.BatchPuts'. -/
def batchPutsCard : Claim7 := { stood := { row := batchPutsRow, standIns := [], harness := (true, "a17702c8cd3f653a35c7ffed872b4bd7361470a9ea80f7317ba708290fccb259"), looks := true }, kinds := [], alts := [], laidByText := true, laidKinds := [.data, .data, .data, .sentinel, .sentinel], laidTests := true, laidLooks := .later }
def BatchPutsCardSaid : Prop := Claim7.holds Tryd.pinned (.plain (OpenSpec.ofChange batchPutsSpec)) batchPutsCard

/-- THE TIED CARD OF 'nogginlaw07.BatchGets'. -/
def batchGetsCard : Claim7 := { stood := { row := batchGetsRow, standIns := [], harness := (true, "a17702c8cd3f653a35c7ffed872b4bd7361470a9ea80f7317ba708290fccb259"), looks := true }, kinds := [], alts := [], laidByText := true, laidKinds := [.data, .data, .data, .sentinel, .sentinel], laidTests := true, laidLooks := .later }
def BatchGetsCardSaid : Prop := Claim7.holds Tryd.pinned (.plain (OpenSpec.ofChange batchGetsSpec)) batchGetsCard

/-- THE TIED CARD OF 'nogginlaw07.BatchBack'. -/
def batchBackCard : Claim7 := { stood := { row := batchBackRow, standIns := [], harness := (true, "a17702c8cd3f653a35c7ffed872b4bd7361470a9ea80f7317ba708290fccb259"), looks := true }, kinds := [], alts := [], laidByText := true, laidKinds := [.data, .data, .data, .sentinel, .sentinel], laidTests := true, laidLooks := .later }
def BatchBackCardSaid : Prop := Claim7.holds Tryd.pinned (.plain (OpenSpec.ofChange batchBackSpec)) batchBackCard

/-- THE SECOND FORM's CARD OF 'nogginlaw07.BatchPuts'. -/
def batchPutsUptoCard : Claim7 := { stood := { row := batchPutsUptoRow, standIns := [], harness := (true, "a17702c8cd3f653a35c7ffed872b4bd7361470a9ea80f7317ba708290fccb259"), looks := true }, kinds := [], alts := [], laidByText := true, laidKinds := [.data, .data, .data, .sentinel, .sentinel], laidTests := true, laidLooks := .later }
def BatchPutsUptoCardSaid : Prop := Claim7.holds Tryd.pinned (.plain (OpenSpec.upto batchPutsSpec)) batchPutsUptoCard

/-- THE SECOND FORM's CARD OF 'nogginlaw07.BatchGets'. -/
def batchGetsUptoCard : Claim7 := { stood := { row := batchGetsUptoRow, standIns := [], harness := (true, "a17702c8cd3f653a35c7ffed872b4bd7361470a9ea80f7317ba708290fccb259"), looks := true }, kinds := [], alts := [], laidByText := true, laidKinds := [.data, .data, .data, .sentinel, .sentinel], laidTests := true, laidLooks := .later }
def BatchGetsUptoCardSaid : Prop := Claim7.holds Tryd.pinned (.plain (OpenSpec.upto batchGetsSpec)) batchGetsUptoCard

/-- THE SECOND FORM's CARD OF 'nogginlaw07.BatchBack'. -/
def batchBackUptoCard : Claim7 := { stood := { row := batchBackUptoRow, standIns := [], harness := (true, "a17702c8cd3f653a35c7ffed872b4bd7361470a9ea80f7317ba708290fccb259"), looks := true }, kinds := [], alts := [], laidByText := true, laidKinds := [.data, .data, .data, .sentinel, .sentinel], laidTests := true, laidLooks := .later }
def BatchBackUptoCardSaid : Prop := Claim7.holds Tryd.pinned (.plain (OpenSpec.upto batchBackSpec)) batchBackUptoCard
end Rows
end Go.Proofs.YtahmcelkfbigkaaDoor
