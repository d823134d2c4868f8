/-
  No cell of these rows narrows 'for every input' (looked for: loops, veiled, ifaces, maps, wideKeys, modest, calm, conditions, laid).
  DERIVED. THE GIVEN ROWS OF THIS SEAT. 3 by the template 'for every input the law returns true; each argument reads behind the call as it read before'; 0 by the template 'total and deterministic' (their statements: YtpgncpochlfcnaaTotals.lean).
  GIVEN WITH THE SEED: the statements are not yours to turn. If you find one false, say at which input.
  Laid BY PROGRAM, IN A SANDBOX (cutbox-rows.mjs): the forced cells as the released guide's own fill.sh prints them over the translation 86ac001ba0ee98d3… (all of the seat's roots in one cut). By AI agents, Wed Nov 11 2026. No macro, syntax, notation, axiom, sorry.
-/
import Derived.Test.YtpgncpochlfcnaaChecked
import GoSem.Claim
import GoSem.ClaimJoined
import GoSem.ClaimMapViews
import Derived.JoinedTies
import Derived.KernelRfl
namespace Go.Proofs.Ytpgncpochlfcnaa
/- THE CELL 'sum', in the pinned program and in every row, IS THE sha256 OF THE DUMP (.gsa) THAT YtpgncpochlfcnaaProg.lean LOADS. Nothing in Lean hashes anything: it is a label: what it is worth is what the hold of that sum in a sandbox is worth. -/
noncomputable def Try.pinned : Pinned := { name := "ytpgncpochlfcnaa", sum := "86ac001ba0ee98d356a53afcecca4a29ae9a6d88fe9966908efd99aa1b548fb7", checked := Try.checked }
namespace Rows
def none {H : Type} : Left H := { results := [], args := [] }

/-- 'nogginlaw03.MixTells': WHATEVER THE INPUT: true; the input reads as it did. -/
def mixTellsSpec : ChangeSpec := { name := "mixTells", fn := fun _ => fun
  | [d1, d2] => { results := [.lit (.bool true)], args := [d1, d2] }
  | _ => none }
def mixTellsRow : OpenClaim := { program := "ytpgncpochlfcnaa", sum := "86ac001ba0ee98d356a53afcecca4a29ae9a6d88fe9966908efd99aa1b548fb7", func := "noggin/nogginlaw03.MixTells", spec := "mixTells", apart := false }
def MixTellsSaid : Prop := mixTellsRow.holds Try.pinned (OpenSpec.ofChange mixTellsSpec)

/-- ITS FALSE NEIGHBOUR: 'it returns false'. Refute it at one input. -/
def mixTellsWrong : ChangeSpec := { name := "mixTells", fn := fun _ => fun
  | [d1, d2] => { results := [.lit (.bool false)], args := [d1, d2] }
  | _ => none }
def MixTellsWrongFalsely : Prop := mixTellsRow.holds Try.pinned (OpenSpec.ofChange mixTellsWrong)

/-- 'nogginlaw03.MixLess': WHATEVER THE INPUT: true; the input reads as it did. -/
def mixLessSpec : ChangeSpec := { name := "mixLess", fn := fun _ => fun
  | [d1, d2, d3] => { results := [.lit (.bool true)], args := [d1, d2, d3] }
  | _ => none }
def mixLessRow : OpenClaim := { program := "ytpgncpochlfcnaa", sum := "86ac001ba0ee98d356a53afcecca4a29ae9a6d88fe9966908efd99aa1b548fb7", func := "noggin/nogginlaw03.MixLess", spec := "mixLess", apart := false }
def MixLessSaid : Prop := mixLessRow.holds Try.pinned (OpenSpec.ofChange mixLessSpec)

/-- ITS FALSE NEIGHBOUR: 'it returns false'. Refute it at one input. -/
def mixLessWrong : ChangeSpec := { name := "mixLess", fn := fun _ => fun
  | [d1, d2, d3] => { results := [.lit (.bool false)], args := [d1, d2, d3] }
  | _ => none }
def MixLessWrongFalsely : Prop := mixLessRow.holds Try.pinned (OpenSpec.ofChange mixLessWrong)

/-- 'nogginlaw03.MixOn': WHATEVER THE INPUT: true; the input reads as it did. -/
def mixOnSpec : ChangeSpec := { name := "mixOn", fn := fun _ => fun
  | [d1, d2] => { results := [.lit (.bool true)], args := [d1, d2] }
  | _ => none }
def mixOnRow : OpenClaim := { program := "ytpgncpochlfcnaa", sum := "86ac001ba0ee98d356a53afcecca4a29ae9a6d88fe9966908efd99aa1b548fb7", func := "noggin/nogginlaw03.MixOn", spec := "mixOn", apart := false }
def MixOnSaid : Prop := mixOnRow.holds Try.pinned (OpenSpec.ofChange mixOnSpec)

/-- ITS FALSE NEIGHBOUR: 'it returns false'. Refute it at one input. -/
def mixOnWrong : ChangeSpec := { name := "mixOn", fn := fun _ => fun
  | [d1, d2] => { results := [.lit (.bool false)], args := [d1, d2] }
  | _ => none }
def MixOnWrongFalsely : Prop := mixOnRow.holds Try.pinned (OpenSpec.ofChange mixOnWrong)

/- THE SECOND FORM. 'bulk': how many values and letters a reading holds, each counted each time it is reached (what is shared counts as often as it is met; a slice's spare places count too). A statement '..UptoSaid' is the law's where the arguments, and the package variables that the reading takes, are together of bulk at most 1048576: NARROWER than '..Said'. Prove '..Said' where nothing that the law and all that it calls make is longer than what came in: it says more and counts as full. Else prove '..UptoSaid'. A law counts once. -/
mutual
def uptoBulk {H : Type} : DataW H → Nat
  | .lit (.string bytes) => bytes.length + 1
  | .lit _ => 1
  | .nil => 1
  | .ptr d => uptoBulk d + 1
  | .slice elems spare => uptoBulkAll elems + uptoBulkAll spare + 1
  | .agg parts => uptoBulkAll parts + 1
  | .iface _ d => uptoBulk d + 1
  | .map entries => uptoBulkEntries entries + 1
  | .held _ => 1
def uptoBulkAll {H : Type} : List (DataW H) → Nat
  | [] => 0
  | d :: r => uptoBulk d + uptoBulkAll r
def uptoBulkEntries {H : Type} : List (Lit × DataW H) → Nat
  | [] => 0
  | x :: r => uptoBulkEntry x + uptoBulkEntries r
def uptoBulkEntry {H : Type} : Lit × DataW H → Nat
  | (.string bytes, d) => bytes.length + uptoBulk d + 1
  | (_, d) => uptoBulk d + 1
 end
def uptoSmall : (H : Type) → List (DataW H) → Bool := fun _ ds => decide (uptoBulkAll ds ≤ 1048576)
def OpenSpec.upto (s : _root_.Go.ChangeSpec) : _root_.Go.OpenSpec := { _root_.Go.OpenSpec.ofChange s with cond := some uptoSmall }

/-- 'nogginlaw03.MixTells', WHERE WHAT IT READS IS OF BULK AT MOST 1048576: true; the input reads as it did. -/
def mixTellsUptoRow : OpenClaim := { program := "ytpgncpochlfcnaa", sum := "86ac001ba0ee98d356a53afcecca4a29ae9a6d88fe9966908efd99aa1b548fb7", func := "noggin/nogginlaw03.MixTells", spec := "mixTells", apart := false, narrowed := true }
def MixTellsUptoSaid : Prop := mixTellsUptoRow.holds Try.pinned (OpenSpec.upto mixTellsSpec)

/-- 'nogginlaw03.MixLess', WHERE WHAT IT READS IS OF BULK AT MOST 1048576: true; the input reads as it did. -/
def mixLessUptoRow : OpenClaim := { program := "ytpgncpochlfcnaa", sum := "86ac001ba0ee98d356a53afcecca4a29ae9a6d88fe9966908efd99aa1b548fb7", func := "noggin/nogginlaw03.MixLess", spec := "mixLess", apart := false, narrowed := true }
def MixLessUptoSaid : Prop := mixLessUptoRow.holds Try.pinned (OpenSpec.upto mixLessSpec)

/-- 'nogginlaw03.MixOn', WHERE WHAT IT READS IS OF BULK AT MOST 1048576: true; the input reads as it did. -/
def mixOnUptoRow : OpenClaim := { program := "ytpgncpochlfcnaa", sum := "86ac001ba0ee98d356a53afcecca4a29ae9a6d88fe9966908efd99aa1b548fb7", func := "noggin/nogginlaw03.MixOn", spec := "mixOn", apart := false, narrowed := true }
def MixOnUptoSaid : Prop := mixOnUptoRow.holds Try.pinned (OpenSpec.upto mixOnSpec)

end Rows
end Go.Proofs.Ytpgncpochlfcnaa
