/-
  Layer 8: the laws' arguments opened: bytes as a list, and how many there are at most (what was read fits into memory).
-/
import Derived.Test.YtgohgmihoggcpaaDiskUp
import Derived.OpenShut
import Derived.SizedLaws
namespace Go.Proofs.Ytgohgmihoggcpaa
open Go.ChangeShapes Go.WideShapes Go.ChangeAt Go.RowKit
set_option linter.unusedVariables false

theorem cells_u8 : Try.prog.cellsOf 5 = 1 := by kernel_rfl
theorem bytes_u8 : Try.prog.bytesOf 5 = 1 := by kernel_rfl
theorem byte_back8 {z : Int} (h : 0 ≤ z ∧ z ≤ 255) : z.toNat.toUInt8.toNat = z.toNat := by
  have : z.toNat < 256 := by omega
  simp [Nat.toUInt8, UInt8.toNat_ofNat', Nat.mod_eq_of_lt this]
set_option maxRecDepth 100000 in
theorem open_row8 {H : Type} {enc : TypeId × Value → H} {W : World} {v : Value} {x : DataW H} {ps : List MemPlace} {r : Reach} {b0 : Nat}
    (hval : Value.okWide Try.prog W r b0 32 v) (hd : DataW.Trod enc Try.prog W 0 (fun _ => true) true 32 v x ps) :
    ∃ (A : Option Addr) (cap : Nat) (l : List UInt8), v = .slice A l.length cap ∧ RdS W A cap l ∧ l.length ≤ maxLen ∧ (l = [] ∨ ∃ es sp, x = .slice es sp ∧ es.length = l.length) := by
  obtain ⟨A, len, cap, rfl⟩ := okWide_slice Try.underlying32 hval
  obtain ⟨fuel, hf⟩ := hd
  rcases open_ints Try.underlying32 Try.underlying5 cells_u8 hf with ⟨hcs, hx⟩ | ⟨a, len', cap', zs, hcs, _, hl, hm, hz, hx, hcell, hwz⟩
  · simp [Value.cells] at hcs
    obtain ⟨rfl, rfl, rfl⟩ := hcs
    exact ⟨none, 0, [], rfl, RdS.nil W, by simp, .inl rfl⟩
  · simp [Value.cells] at hcs
    obtain ⟨rfl, rfl, rfl⟩ := hcs
    simp only [if_true] at hz
    have hlen : ((zs.take len).map fun z => z.toNat.toUInt8).length = len := by simp; omega
    simp only [Prod.mk.injEq] at hx
    obtain ⟨rfl, rfl⟩ := hx
    refine ⟨some a, cap, (zs.take len).map fun z => z.toNat.toUInt8, by rw [hlen], ⟨by rw [hlen]; exact hl, (fun h => by cases h), fun ad ha i c hi => ?_⟩, by omega, .inr ⟨_, _, rfl, by rw [hlen]; simp [lits]; omega⟩⟩
    cases ha
    rw [List.getElem?_map, List.getElem?_take] at hi
    split at hi
    · rename_i hil
      have hi' : i < zs.length := by omega
      rw [List.getElem?_eq_getElem hi'] at hi
      cases hi
      rw [hcell i hi']
      have hb := bounds_u8 (hwz zs[i] (List.getElem_mem hi'))
      have hd : zs.getD i 0 = zs[i] := by simp [List.getD, hi']
      rw [hd, byte_back8 (by omega)]
      congr 2
      omega
    · cases hi
/-- What was read fits into memory. -/
theorem row_fits {H : Type} {ts : List TypeId} {ds : List (DataW H)} {x : DataW H} {l : List UInt8} (hz : (DataW.weightsEach Try.prog ts ds).all (· ≤ reachBytes) = true) {j : Nat} (ht : ts[j]? = some 32) (hd : ds[j]? = some x)
    (h : l = [] ∨ ∃ es sp, x = .slice es sp ∧ es.length = l.length) : l.length ≤ 1000000000000000 := by
  rcases h with rfl | ⟨es, sp, rfl, e⟩
  · simp
  · have h := sized_slice hz ht hd Try.underlying32
    rw [bytes_u8] at h
    unfold reachBytes at h
    omega
end Go.Proofs.Ytgohgmihoggcpaa
