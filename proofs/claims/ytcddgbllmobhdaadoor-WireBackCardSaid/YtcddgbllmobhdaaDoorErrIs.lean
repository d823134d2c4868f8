/-
  errors.Is at a Spot and its Code, and the laws' own question Is: true of a Spot at its place with its Code.
-/
import Derived.Test.YtcddgbllmobhdaaDoorErrs
namespace Go.Proofs.YtcddgbllmobhdaaDoor
open Go.RowKit Go.Extern.Stop Go.Stop Go.Extern
set_option linter.unusedVariables false

theorem compP : (Tryd.prog.info? 59).map (·.comparable) = some true := by kernel_rfl
theorem sizeS : (Tryd.prog.info? 61).map (·.size) = some 2 := by kernel_rfl
theorem noIsP (v : Value) (xT : TypeId) (w : World) : (Instr.typeAssert (.iface 59 v) xT 93 true).run Tryd.prog w = .ok (.tuple #[.nilIface, .bool false]) w := run_typeAssert_lacksB Tryd.underlying93 (by kernel_rfl) (by kernel_rfl) v xT w
theorem hasUnwrapP (v : Value) (xT : TypeId) (w : World) : (Instr.typeAssert (.iface 59 v) xT 89 true).run Tryd.prog w = .ok (.tuple #[.iface 59 v, .bool true]) w := run_typeAssert_hasB Tryd.underlying89 (by kernel_rfl) v xT w
theorem mUnwrap (v : Value) (w : World) : (Go.method 225 59 v "Unwrap").run Tryd.prog w = .ok (59, v) w := by kernel_rfl

theorem neq_ptr_same {P : Program} (w : World) {ti tp te : TypeId} {ms : Array (String × TypeId)} {i j : TypeInfo} (a : Addr)
    (hi : P.underlying ti = some (.interface ms)) (hp : P.underlying tp = some (.pointer te)) (hinfo : P.info? tp = some i) (hcomp : i.comparable = true) (hte : P.info? te = some j) :
    (binOp .neq ti (.iface tp (.pointer (some a))) (.iface tp (.pointer (some a)))).run P w = .ok (.bool false) w := by
  simp only [binOp]
  simp [Op.equal, Op.maxDepth, run_equalIn_iface_ptr_same w 9998 a hi hp hinfo hcomp hte]
theorem callComparableC (w : World) : (callFunc 65 #[.agg #[.pointer (some ⟨1, 49, none⟩)]]).run Tryd.prog w = .ok (.value (.bool true)) w := by kernel_rfl

set_option maxHeartbeats 4000000 in
theorem isHit (N : Nat) (c : Int) (w : World) (h1 : w.cell? ⟨N, 1, none⟩ = some (.int .i64 c)) :
    Calls Tryd.prog 30 #[.iface 59 (.pointer (some ⟨N, 0, none⟩)), .iface 49 (.int .i64 c)] w fun e w' => e = .returned (.bool true) ∧ w = w' := by
  obtain ⟨i, hi, hcmp⟩ := Option.map_eq_some_iff.1 compC
  have h8 := @run_callFunc_extern Tryd.prog 36 _ ReflectliteType.typeOf Tryd.func36 (by kernel_rfl) (by kernel_rfl) (by kernel_rfl) (by kernel_rfl)
  have h32 := callComparableC
  have tT := typeOfC
  have mR := mComparable
  have nE := noIsP
  have uE := hasUnwrapP
  have mU := mUnwrap
  have heq := eql_ints (P := Tryd.prog) w c c Tryd.underlying45 Tryd.underlying49 hi hcmp
  have hty := run_eql_iface_types (P := Tryd.prog) 59 49 (.pointer (some ⟨N, 0, none⟩)) (.int .i64 c) Tryd.underlying45 (by decide) w
  go_enter Tryd.func30, Tryd.ntmps30
  go_wp2
  refine wp_loop_rounds 2 ?_
  rw [rounds_succ]
  go_wp2
  rw [rounds_succ]
  go_wp2
  go_ret
  exact ⟨rfl, rfl⟩

set_option maxRecDepth 100000 in
/-- The laws' own question, at a Spot with its place and its Code. -/
theorem isSpot (N : Nat) (p : Int) (c : Int) (w : World) (hL : Laid w) (hS : w.heap[N]? = some (.cells #[.int .i64 p, .int .i64 c] 61 (0, 0))) :
    Calls Tryd.prog 23 #[.iface 59 (.pointer (some ⟨N, 0, none⟩)), .int .i64 p, .int .i64 c] w (Holds w) := by
  obtain ⟨i, hi, hcmp⟩ := Option.map_eq_some_iff.1 compP
  obtain ⟨j, hj, hjs⟩ := Option.map_eq_some_iff.1 sizeS
  have hN := lt_of_block hS
  have CA := Lib.hid (asHit ⟨N, 0, none⟩ ⟨w.heap.size, 0, none⟩ (.pointer none) (w.alloc (.cells #[.pointer none] 59)) (hL.alloc _).et (by simp) (by simp))
  have s0 : w.cell? ⟨N, 0, none⟩ = some (.int .i64 p) := cell_of_block hS
  have s1 : w.cell? ⟨N, 1, none⟩ = some (.int .i64 c) := cell_of_block hS
  have H0 := Lib.hid s0
  have H1 := Lib.hid s1
  clear hS s0 s1 hjs
  go_enter Tryd.func23, Tryd.ntmps23
  go_wp2_with fail
  refine CA.out.mono ?_
  rintro e w1 ⟨rfl, hw1⟩
  have hb1 : Below w.heap.size w w1 := by
    rw [hw1]
    exact (((((((Below.refl _ _).alloc (Nat.le_refl _) _).alloc (by simp) _).alloc (by simp; omega) _).alloc (by simp; omega) _).alloc (by simp; omega) _).setCell (Nat.le_refl _) _)
  have hc1 : w1.cell? ⟨w.heap.size, 0, none⟩ = some (.pointer (some ⟨N, 0, none⟩)) := by
    rw [hw1]
    refine World.cell?_setCell_same _ _ _ (u := .pointer none) ?_
    rw [World.cell?_alloc_lt _ _ ⟨w.heap.size, 0, none⟩ (by simp; omega), World.cell?_alloc_lt _ _ ⟨w.heap.size, 0, none⟩ (by simp; omega), World.cell?_alloc_lt _ _ ⟨w.heap.size, 0, none⟩ (by simp; omega), World.cell?_alloc_lt _ _ ⟨w.heap.size, 0, none⟩ (by simp)]
    simp
  have s0 : w1.cell? ⟨N, 0, none⟩ = some (.int .i64 p) := (hb1.cell (p := ⟨N, 0, none⟩) hN).trans H0.out
  have s1 : w1.cell? ⟨N, 1, none⟩ = some (.int .i64 c) := (hb1.cell (p := ⟨N, 1, none⟩) hN).trans H1.out
  have HB1 := Lib.hid hb1
  clear hb1 hw1 CA
  have heq := neq_ptr_same (P := Tryd.prog) w1 ⟨N, 0, none⟩ Tryd.underlying45 Tryd.underlying59 hi hcmp hj
  have CI := Lib.hid (isHit N c w1 s1)
  go_wp2_with fail
  refine CI.out.mono ?_
  rintro e w2 ⟨rfl, rfl⟩
  go_wp2_with fail
  go_ret
  exact ⟨by simp, HB1.out⟩
end Go.Proofs.YtcddgbllmobhdaaDoor
