/-
  Two errors that are Codes held against each other.
-/
import Derived.Test.YtihloamiibelgaaKit
import Derived.Deep.QuietTactic
namespace Go.Proofs.Ytihloamiibelgaa
open Go.RowKit
set_option linter.unusedVariables false

theorem compC : (Try.prog.info? 32).map (·.comparable) = some true := by kernel_rfl
theorem equalIn_ints {P : Program} (w : World) (d : Nat) {ti tn : TypeId} {ms : Array (String × TypeId)} {i : TypeInfo} {k : IntKind} (a b : Int)
    (hi : P.underlying ti = some (.interface ms)) (hn : P.underlying tn = some (.int k)) (hinfo : P.info? tn = some i) (hcomp : i.comparable = true) :
    (Op.equalIn (d + 2) ti (.iface tn (.int k a)) (.iface tn (.int k b))).run P w = .ok (a == b) w := by
  simp [Op.equalIn, run_underlying hi, run_underlying hn, typeInfo, hinfo, hcomp]
theorem eql_ints {P : Program} (w : World) {ti tn : TypeId} {ms : Array (String × TypeId)} {i : TypeInfo} {k : IntKind} (a b : Int)
    (hi : P.underlying ti = some (.interface ms)) (hn : P.underlying tn = some (.int k)) (hinfo : P.info? tn = some i) (hcomp : i.comparable = true) :
    (binOp .eql ti (.iface tn (.int k a)) (.iface tn (.int k b))).run P w = .ok (.bool (a == b)) w := by
  simp only [binOp]
  simp [Op.equal, Op.maxDepth, equalIn_ints w 9998 a b hi hn hinfo hcomp]
theorem eql_codes (w : World) (a b : Int) : (binOp .eql 29 (.iface 32 (.int .i64 a)) (.iface 32 (.int .i64 b))).run Try.prog w = .ok (.bool (a == b)) w := by
  obtain ⟨i, hi, hcmp⟩ := Option.map_eq_some_iff.1 compC
  exact eql_ints (P := Try.prog) w a b Try.underlying29 Try.underlying32 hi hcmp
end Go.Proofs.Ytihloamiibelgaa
