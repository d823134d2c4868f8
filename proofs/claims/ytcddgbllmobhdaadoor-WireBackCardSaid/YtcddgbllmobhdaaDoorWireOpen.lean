/-
  The laws' arguments opened: bytes as a list; what is asked, as a list of pairs. And from the rows' condition on the library's package-level variable to what the walks use.
-/
import Derived.Test.YtcddgbllmobhdaaDoorWireReads
import Derived.Test.YtcddgbllmobhdaaDoorLineMet
import Derived.Deep.SlicePairs
import Derived.Deep.Fields
namespace Go.Proofs.YtcddgbllmobhdaaDoor
open Go.ChangeShapes Go.WideShapes Go.ChangeAt Go.RowKit Go.Deep
set_option linter.unusedVariables false

theorem cells_u8 : Tryd.prog.cellsOf 5 = 1 := by kernel_rfl
theorem cells_int : Tryd.prog.cellsOf 3 = 1 := by kernel_rfl
theorem cells_ask : Tryd.prog.cellsOf 40 = 2 := by kernel_rfl
set_option maxRecDepth 100000 in
theorem open_row {H : Type} {enc : TypeId × Value → H} {W : World} {v : Value} {x : DataW H} {ps : List MemPlace} {r : Reach} {b0 : Nat}
    (hval : Value.okWide Tryd.prog W r b0 22 v) (hd : DataW.Trod enc Tryd.prog W 0 (fun _ => true) true 22 v x ps) :
    ∃ (A : Option Addr) (cap : Nat) (l : List UInt8), v = .slice A l.length cap ∧ RdS W A cap l ∧ l.length ≤ maxLen := by
  obtain ⟨A, len, cap, rfl⟩ := okWide_slice Tryd.underlying22 hval
  obtain ⟨fuel, hf⟩ := hd
  rcases open_ints Tryd.underlying22 Tryd.underlying5 cells_u8 hf with ⟨hcs, hx⟩ | ⟨a, len', cap', zs, hcs, _, hl, hm, hz, hx, hcell, hwz⟩
  · simp [Value.cells] at hcs
    obtain ⟨rfl, rfl, rfl⟩ := hcs
    exact ⟨none, 0, [], rfl, RdS.nil W, by simp⟩
  · simp [Value.cells] at hcs
    obtain ⟨rfl, rfl, rfl⟩ := hcs
    simp only [if_true] at hz
    have hlen : ((zs.take len).map fun z => z.toNat.toUInt8).length = len := by simp; omega
    refine ⟨some a, cap, (zs.take len).map fun z => z.toNat.toUInt8, by rw [hlen], ⟨by rw [hlen]; exact hl, (fun h => by cases h), fun ad ha i c hi => ?_⟩, by omega⟩
    cases ha
    rw [List.getElem?_map, List.getElem?_take] at hi
    split at hi
    · rename_i hil
      have hi' : i < zs.length := by omega
      rw [List.getElem?_eq_getElem hi'] at hi
      cases hi
      rw [hcell i hi']
      have hb := bounds_u8 (hwz zs[i] (List.getElem_mem hi'))
      have hd : zs.getD i 0 = zs[i] := by simp [List.getD, hi']
      rw [hd, byte_toNat (by omega)]
      congr 2
      omega
    · cases hi
theorem add_off (b o i : Nat) : (⟨b, o, none⟩ : Addr).add i = ⟨b, o + i, none⟩ := by
  unfold Addr.add
  split
  · subst_vars; rfl
  · rfl
set_option maxRecDepth 100000 in
theorem open_asks {H : Type} {enc : TypeId × Value → H} {W : World} {v : Value} {x : DataW H} {ps : List MemPlace} {r : Reach} {b0 : Nat}
    (hval : Value.okWide Tryd.prog W r b0 32 v) (hd : DataW.Trod enc Tryd.prog W 0 (fun _ => true) true 32 v x ps) :
    ∃ (A : Option Addr) (c : Nat) (ks : List (Int × Int)), v = .slice A ks.length c ∧ RdK W A ks ∧ ks.length ≤ maxLen ∧ Wide64 ks := by
  obtain ⟨A, len, cap, rfl⟩ := okWide_slice Tryd.underlying32 hval
  obtain ⟨fuel, h⟩ := hd
  rcases open_slice_pairs Tryd.underlying32 Tryd.underlying40 cells_ask rfl rfl cells_int cells_int h with ⟨hcs, _⟩ | ⟨a, len', cap', m, k, V0, V1, D0, D1, P0, P1, hcs, _, hl, hm, hmm, _, hc⟩
  · simp [Value.cells] at hcs
    obtain ⟨rfl, rfl, rfl⟩ := hcs
    exact ⟨none, 0, [], rfl, .inl rfl, by simp, fun x y h => by simp at h⟩
  · simp [Value.cells] at hcs
    obtain ⟨rfl, rfl, rfl⟩ := hcs
    simp only [if_true] at hmm
    subst hmm
    have hs : ∀ i, i < len → ∃ q : Int × Int, W.cell? (a.add (i * 2)) = some (.int .i64 q.1) ∧ W.cell? (a.add (i * 2 + 1)) = some (.int .i64 q.2) ∧ -9223372036854775808 ≤ q.1 ∧ q.1 ≤ 9223372036854775807 ∧ -9223372036854775808 ≤ q.2 ∧ q.2 ≤ 9223372036854775807 := by
      intro i hi
      obtain ⟨p0, p1, t0, t1⟩ := hc i (by omega)
      obtain ⟨x, e0, _, w0⟩ := DataW.trod_int Tryd.underlying3 t0
      obtain ⟨y, e1, _, w1⟩ := DataW.trod_int Tryd.underlying3 t1
      simp at e0 e1
      have c0 := bounds_i64 w0
      have c1 := bounds_i64 w1
      exact ⟨(x, y), by rw [p0, e0], by rw [p1, e1], c0.1, c0.2, c1.1, c1.2⟩
    obtain ⟨f, hf⟩ : ∃ f : Nat → Int × Int, ∀ i, i < len → W.cell? (a.add (i * 2)) = some (.int .i64 (f i).1) ∧ W.cell? (a.add (i * 2 + 1)) = some (.int .i64 (f i).2) ∧ -9223372036854775808 ≤ (f i).1 ∧ (f i).1 ≤ 9223372036854775807 ∧ -9223372036854775808 ≤ (f i).2 ∧ (f i).2 ≤ 9223372036854775807 :=
      ⟨fun i => if h : i < len then Classical.choose (hs i h) else (0, 0), fun i hi => by simp only [dif_pos hi]; exact Classical.choose_spec (hs i hi)⟩
    have hlen : ((List.range len).map f).length = len := by simp
    refine ⟨some a, m, (List.range len).map f, by rw [hlen], ?_, by omega, ?_⟩
    · by_cases h0 : len = 0
      · subst h0; exact .inl rfl
      · obtain ⟨b, o, spot⟩ := a
        have hsp : spot = none := by
          have := World.cell?_spot (hf 0 (by omega)).1
          simpa [Addr.add] using this
        subst hsp
        refine .inr ⟨b, o, rfl, fun i x y hi => ?_⟩
        rw [List.getElem?_map] at hi
        by_cases hil : i < len
        · rw [List.getElem?_range hil] at hi
          simp at hi
          obtain ⟨q0, q1, _⟩ := hf i hil
          rw [add_off] at q0 q1
          rw [hi] at q0 q1
          exact ⟨q0, by rw [Nat.add_assoc]; exact q1⟩
        · rw [List.getElem?_eq_none (by simp; omega)] at hi
          cases hi
    · intro x y h
      obtain ⟨i, hi, e⟩ := List.mem_map.1 h
      have := hf i (by simpa using hi)
      rw [e] at this
      exact this.2.2

theorem laid_of_met {W : World} (h : laidMetH Tryd.prog laidAll W) : Laid W := by
  have h' : laidMet Tryd.prog [] W ∧ handlesMet Tryd.prog [("errors.errorType", Rows.laid_errors_errorType)] W := h
  obtain ⟨_, hh⟩ := h'
  obtain ⟨name, u, ty, e1, e2, e3, e4, e5⟩ := hh _ (List.mem_singleton.2 rfl)
  have en : name = [101, 114, 114, 111, 114] := (Option.some.inj e1).symm
  subst en
  obtain rfl := Option.some.inj (rtHandle.symm.trans e2)
  have hm : ty ∈ (List.range 125).filter fun t => Tryd.prog.rowNamed t [101, 114, 114, 111, 114] := List.mem_filter.2 ⟨List.mem_range.2 (by rw [← typesSize]; exact e3), e4⟩
  rw [oneError] at hm
  obtain rfl := List.mem_singleton.1 hm
  have hh : typeHandle Tryd.prog 45 = .pointer (some ⟨1, 45, none⟩) := by kernel_rfl
  rw [hh] at e5
  have et : W.cell? ⟨0, 0, none⟩ = some (.iface 82 (.agg #[.pointer (some ⟨1, 45, none⟩)])) := by
    simpa using World.var?_cell gEt e5 0
  exact ⟨et, by have := World.block_lt_of_cell? W _ et; simp at this; omega⟩
end Go.Proofs.YtcddgbllmobhdaaDoor
