/-
  Layer 21: the law SpillPlays at any arguments.
-/
import Derived.Test.YtgnkkcnmepafpaaGreatDoorQSpillPlays
namespace Go.Proofs.YtgnkkcnmepafpaaGreatDoor
open Go.ChangeShapes Go.WideShapes Go.ChangeAt Go.RowKit
set_option linter.unusedVariables false

theorem plays_any {size many room : Int} {A B : Option Addr} {ca cb : Nat} {fb : List UInt8} {l : List DeedS} {W : World} (hL : Laid W) (hA : RdS W A ca fb) (hB : RdDS W B l) (hf : ∀ t ∈ l, FitS t) :
    Calls Tryz.prog 3 #[.int .i64 size, .int .i64 many, .int .i64 room, .slice A fb.length ca, .slice B l.length cb] W (Holds W) := by
  by_cases h1 : size < 1 ∨ 65536 < size
  · exact plays_nil size many room fb.length l.length ca cb A B W hL h1
  · obtain ⟨rm, rfl⟩ : ∃ rm : Nat, size = (rm : Int) := ⟨size.toNat, by omega⟩
    by_cases hh : rm ≤ 20000 ∧ fb.length ≤ 2000 ∧ l.length ≤ 30 ∧ 1 ≤ room ∧ room ≤ 1000 ∧ 1 ≤ many ∧ many ≤ 100
    · exact plays_walk rm many room A B ca cb fb l W hL (by omega) (by omega) (by omega) (by omega) (by omega) hA hB hf
    · exact plays_far rm many room fb.length l.length ca cb A B W hL (by omega) (by omega) (by omega)
end Go.Proofs.YtgnkkcnmepafpaaGreatDoor
