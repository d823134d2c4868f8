/-
  From the rows' condition on the library's package-level variables to what the walks use; and the witness: the heap that the door's own run leaves meets it. From the row's condition on the library's package-level variables (no handle among them) to what the walks use.
-/
import Derived.Test.YtgeahpfdaehjaaaGreatDoorGrpF
import Derived.Stop.LaidErr
import Derived.Lib.LaidTab
import Derived.LaidHandle
import Derived.LaidMore
namespace Go.Proofs.YtgeahpfdaehjaaaGreatDoor
open Go.RowKit Go.ChangeShapes Go.WideShapes
set_option linter.unusedVariables false

abbrev laidAll : List (String × DataW Unit) := Rows.senderTriesRow.laid
theorem gD64 : Tryz.prog.globalNamed "math/bits.deBruijn64tab" = some 5 := by kernel_rfl
theorem tES : (Tryz.prog.globals[1]?).map (·.type) = some 26 := by kernel_rfl
theorem tER : (Tryz.prog.globals[2]?).map (·.type) = some 26 := by kernel_rfl
theorem tTab : (Tryz.prog.globals[3]?).map (·.type) = some 261 := by kernel_rfl
theorem cellsES : Tryz.prog.cellsOf 265 = 1 := by kernel_rfl
theorem cellsStr : Tryz.prog.cellsOf 9 = 1 := by kernel_rfl
theorem cellsU64 : Tryz.prog.cellsOf 120 = 1 := by kernel_rfl
theorem cellsT20 : Tryz.prog.cellsOf 261 = 20 := by kernel_rfl
theorem star : "*" ++ "errors.errorString" = "*errors.errorString" := by decide
theorem rowES (u : TypeId) (h : Tryz.prog.typeName? 3 u = some "*errors.errorString") : u = 263 :=
  typeName_ptr_named (nm := "errors.errorString") (by rw [star]; kernel_rfl) (by kernel_rfl) (by decide) u (by rw [star]; exact h)
theorem oneError : ((List.range 283).filter fun t => Tryz.prog.rowNamed t [101, 114, 114, 111, 114]) = [26] := by kernel_rfl
theorem typesSize : Tryz.prog.types.size = 283 := by kernel_rfl
theorem tabEq : (Rows.laid_internal_strconv_uint64pow10 : DataW Unit) = Lib.tabData .u64 Lib.pow10Tab := by kernel_rfl
theorem var_lt {w : World} {nm : String} {g : Nat} {cs : Array Value} (hg : Tryz.prog.globalNamed nm = some g) (h : w.var? Tryz.prog nm = some cs) : g < w.heap.size := by
  unfold World.var? at h
  rw [hg] at h
  simp only [Option.bind_some] at h
  split at h
  · rename_i hh; exact lt_of_block hh
  · cases h

/-- The door's own heap meets the condition. -/
theorem door_met (os : Os) (args : Array Value) : laidMetH Tryz.prog laidAll ((World.doorLaid Tryz.prog 400 os).forCall (fun _ _ => 0) ⟨#[], args, []⟩).memory :=
  laidMetH_of_parts3 (fuel := 8) (laidMet_of_run' 8 (by kernel_rfl) (by kernel_rfl)) (by kernel_rfl) (by kernel_rfl)
end Go.Proofs.YtgeahpfdaehjaaaGreatDoor
namespace Go.Proofs.YtgeahpfdaehjaaaGreatDoor
open Go.RowKit Go.ChangeShapes Go.WideShapes
set_option linter.unusedVariables false

theorem laid_of_met {W : World} (h : laidMetH Tryz.prog laidAll W) : Laid W := by
  have h' : laidMet Tryz.prog [("math/bits.deBruijn32tab", Rows.laid_math_bits_deBruijn32tab), ("math/bits.deBruijn64tab", Rows.laid_math_bits_deBruijn64tab), ("internal/strconv.uint64pow10", Rows.laid_internal_strconv_uint64pow10), ("strconv.ErrRange", Rows.laid_strconv_ErrRange), ("strconv.ErrSyntax", Rows.laid_strconv_ErrSyntax)] W := h
  have t1 := h'.tail
  have t2 := t1.tail
  have t3 := t2.tail
  have t4 := t3.tail
  rw [tabEq] at t2
  obtain ⟨a1, s1, v1, _, _, _⟩ := laid_sentinel t3 gER tER Tryz.underlying26 rowES Tryz.underlying263 Tryz.underlying265 rfl rfl Tryz.underlying9 cellsES cellsStr
  obtain ⟨a2, s2, v2, _, _, _⟩ := laid_sentinel t4 gES tES Tryz.underlying26 rowES Tryz.underlying263 Tryz.underlying265 rfl rfl Tryz.underlying9 cellsES cellsStr
  refine ⟨⟨_, _, v2⟩, ⟨_, _, v1⟩, Lib.tabIs_of_head gTab tTab Tryz.underlying261 Tryz.underlying120 cellsU64 cellsT20 t2, ?_⟩
  obtain ⟨ps, ⟨g, t, cs, fuel, p, q, hg, ht, hvar, hd, _, _⟩, _⟩ := t1
  obtain rfl := Option.some.inj (gD64.symm.trans hg)
  exact var_lt gD64 hvar
end Go.Proofs.YtgeahpfdaehjaaaGreatDoor
