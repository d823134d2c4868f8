/-
  From the rows' condition on the library's package-level variables to what the walks use; and the witness: the heap that the door's own run leaves meets it.
-/
import Derived.Test.YtndpaafkipanmaaDoorLineLaid
import Derived.Stop.LaidErr
import Derived.Lib.LaidTab
import Derived.LaidHandle
import Derived.LaidMore
namespace Go.Proofs.YtndpaafkipanmaaDoor
open Go.RowKit Go.ChangeShapes Go.WideShapes
set_option linter.unusedVariables false

abbrev laidAll : List (String × DataW Unit) := Rows.lineParsesRow.laid
theorem gD64 : Tryd.prog.globalNamed "math/bits.deBruijn64tab" = some 6 := by kernel_rfl
theorem tES : (Tryd.prog.globals[3]?).map (·.type) = some 27 := by kernel_rfl
theorem tER : (Tryd.prog.globals[4]?).map (·.type) = some 27 := by kernel_rfl
theorem tTab : (Tryd.prog.globals[1]?).map (·.type) = some 126 := by kernel_rfl
theorem cellsES : Tryd.prog.cellsOf 138 = 1 := by kernel_rfl
theorem cellsStr : Tryd.prog.cellsOf 9 = 1 := by kernel_rfl
theorem cellsU64 : Tryd.prog.cellsOf 68 = 1 := by kernel_rfl
theorem cellsT20 : Tryd.prog.cellsOf 126 = 20 := by kernel_rfl
theorem star : "*" ++ "errors.errorString" = "*errors.errorString" := by decide
theorem rowES (u : TypeId) (h : Tryd.prog.typeName? 3 u = some "*errors.errorString") : u = 136 :=
  typeName_ptr_named (nm := "errors.errorString") (by rw [star]; kernel_rfl) (by kernel_rfl) (by decide) u (by rw [star]; exact h)
theorem rtHandle : (Tryd.prog.cutTypes.find? (·.1 == "internal/reflectlite.rtype")).map (·.2) = some 93 := by kernel_rfl
theorem oneError : ((List.range 169).filter fun t => Tryd.prog.rowNamed t [101, 114, 114, 111, 114]) = [27] := by kernel_rfl
theorem typesSize : Tryd.prog.types.size = 169 := by kernel_rfl
theorem tabEq : (Rows.laid_internal_strconv_uint64pow10 : DataW Unit) = Lib.tabData .u64 Lib.pow10Tab := by kernel_rfl
theorem var_lt {w : World} {nm : String} {g : Nat} {cs : Array Value} (hg : Tryd.prog.globalNamed nm = some g) (h : w.var? Tryd.prog nm = some cs) : g < w.heap.size := by
  unfold World.var? at h
  rw [hg] at h
  simp only [Option.bind_some] at h
  split at h
  · rename_i hh; exact lt_of_block hh
  · cases h

theorem laid_of_met {W : World} (h : laidMetH Tryd.prog laidAll W) : Laid W := by
  have h' : laidMet Tryd.prog [("math/bits.deBruijn32tab", Rows.laid_math_bits_deBruijn32tab), ("math/bits.deBruijn64tab", Rows.laid_math_bits_deBruijn64tab), ("internal/strconv.uint64pow10", Rows.laid_internal_strconv_uint64pow10), ("strconv.ErrRange", Rows.laid_strconv_ErrRange), ("strconv.ErrSyntax", Rows.laid_strconv_ErrSyntax)] W ∧ handlesMet Tryd.prog [("errors.errorType", Rows.laid_errors_errorType)] W := h
  obtain ⟨hd, hh⟩ := h'
  have t1 := hd.tail
  have t2 := t1.tail
  have t3 := t2.tail
  have t4 := t3.tail
  rw [tabEq] at t2
  obtain ⟨a1, s1, v1, _, _, _⟩ := laid_sentinel t3 gER tER Tryd.underlying27 rowES Tryd.underlying136 Tryd.underlying138 rfl rfl Tryd.underlying9 cellsES cellsStr
  obtain ⟨a2, s2, v2, _, _, _⟩ := laid_sentinel t4 gES tES Tryd.underlying27 rowES Tryd.underlying136 Tryd.underlying138 rfl rfl Tryd.underlying9 cellsES cellsStr
  refine ⟨⟨_, _, v2⟩, ⟨_, _, v1⟩, Lib.tabIs_of_head gTab tTab Tryd.underlying126 Tryd.underlying68 cellsU64 cellsT20 t2, ?_, ?_⟩
  · obtain ⟨name, u, ty, e1, e2, e3, e4, e5⟩ := hh _ (List.mem_singleton.2 rfl)
    have en : name = [101, 114, 114, 111, 114] := (Option.some.inj e1).symm
    subst en
    obtain rfl := Option.some.inj (rtHandle.symm.trans e2)
    have hm : ty ∈ (List.range 169).filter fun t => Tryd.prog.rowNamed t [101, 114, 114, 111, 114] := List.mem_filter.2 ⟨List.mem_range.2 (by rw [← typesSize]; exact e3), e4⟩
    rw [oneError] at hm
    obtain rfl := List.mem_singleton.1 hm
    have hh : typeHandle Tryd.prog 27 = .pointer (some ⟨7, 27, none⟩) := by kernel_rfl
    rw [hh] at e5
    simpa using World.var?_cell gEt e5 0
  · obtain ⟨ps, ⟨g, t, cs, fuel, p, q, hg, ht, hvar, hd, _, _⟩, _⟩ := t1
    obtain rfl := Option.some.inj (gD64.symm.trans hg)
    exact var_lt gD64 hvar

/-- The door's own heap meets the condition. -/
theorem door_met (os : Os) (args : Array Value) : laidMetH Tryd.prog laidAll ((World.doorLaid Tryd.prog 400 os).forCall (fun _ _ => 0) ⟨#[], args, []⟩).memory :=
  laidMetH_of_parts3 (fuel := 8) (laidMet_of_run' 8 (by kernel_rfl) (by kernel_rfl)) (by kernel_rfl) (by kernel_rfl)
end Go.Proofs.YtndpaafkipanmaaDoor
