/-
  Layer 8: deeds that were handed in, as a list.
-/
import Derived.Test.YtgohgmihoggcpaaDiskOpen
import Derived.Deep.SlicePairs
import Derived.Deep.Fields
namespace Go.Proofs.Ytgohgmihoggcpaa
open Go.ChangeShapes Go.WideShapes Go.ChangeAt Go.RowKit Go.Deep
set_option linter.unusedVariables false

/-- A deed: which it is, the part's number, a size, bytes. -/
structure De where
  t : Int
  n : Int
  z : Int
  b : List UInt8
def deOf (d : De) (B : Option Addr) (c : Nat) : List Value := [.int .i64 d.t, .int .i64 d.n, .int .i64 d.z, .slice B d.b.length c]
structure DeAt (w : World) (b k : Nat) (d : De) (B : Option Addr) (c : Nat) : Prop where
  p0 : w.cell? ⟨b, k, none⟩ = some (.int .i64 d.t)
  p1 : w.cell? ⟨b, k + 1, none⟩ = some (.int .i64 d.n)
  p2 : w.cell? ⟨b, k + 2, none⟩ = some (.int .i64 d.z)
  p3 : w.cell? ⟨b, k + 3, none⟩ = some (.slice B d.b.length c)
  bs : RdS w B c d.b
def RdDe (w : World) (A : Option Addr) (l : List De) : Prop := l = [] ∨ ∃ b o, A = some ⟨b, o, none⟩ ∧ ∀ i d, l[i]? = some d → ∃ B c, DeAt w b (o + i * 4) d B c
theorem DeAt.below {w w' : World} {b k : Nat} {d : De} {B : Option Addr} {c : Nat} (h : DeAt w b k d B c) (hb : Below w.heap.size w w') : DeAt w' b k d B c := by
  have hl := World.block_lt_of_cell? w _ h.p0
  have hk : ∀ o, w'.cell? ⟨b, o, none⟩ = w.cell? ⟨b, o, none⟩ := fun o => hb.cell (p := ⟨b, o, none⟩) hl
  exact ⟨by rw [hk]; exact h.p0, by rw [hk]; exact h.p1, by rw [hk]; exact h.p2, by rw [hk]; exact h.p3, h.bs.below hb (Nat.le_refl _)⟩
theorem RdDe.at {w : World} {A : Option Addr} {l : List De} (h : RdDe w A l) {i : Nat} {d : De} (hi : l[i]? = some d) : ∃ b o B c, A = some ⟨b, o, none⟩ ∧ DeAt w b (o + i * 4) d B c := by
  rcases h with rfl | ⟨b, o, e, hc⟩
  · simp at hi
  · obtain ⟨B, c, ha⟩ := hc i d hi
    exact ⟨b, o, B, c, e, ha⟩
theorem cells_int : Try.prog.cellsOf 3 = 1 := by kernel_rfl
theorem cells_bs : Try.prog.cellsOf 32 = 1 := by kernel_rfl
section
variable {H : Type} {enc : TypeId × Value → H} {W : World}
theorem open_bs {fuel : Nat} {cs : List Value} {x : DataW H × List MemPlace} (h : DataW.trod enc Try.prog W 0 (fun _ => true) true fuel 32 cs = some x) :
    ∃ (A : Option Addr) (cap : Nat) (l : List UInt8), cs = [.slice A l.length cap] ∧ RdS W A cap l ∧ l.length ≤ maxLen := by
  rcases open_ints Try.underlying32 Try.underlying5 cells_u8 h with ⟨hcs, hx⟩ | ⟨a, len, cap, zs, hcs, _, hl, hm, hz, hx, hcell, hwz⟩
  · exact ⟨none, 0, [], by rw [hcs]; rfl, RdS.nil W, by simp⟩
  · simp only [if_true] at hz
    have hlen : ((zs.take len).map fun z => z.toNat.toUInt8).length = len := by simp; omega
    refine ⟨some a, cap, (zs.take len).map fun z => z.toNat.toUInt8, by rw [hlen, hcs], ⟨by rw [hlen]; exact hl, (fun h => by cases h), fun ad ha i c hi => ?_⟩, by omega⟩
    cases ha
    rw [List.getElem?_map, List.getElem?_take] at hi
    split at hi
    · rename_i hil
      have hi' : i < zs.length := by omega
      rw [List.getElem?_eq_getElem hi'] at hi
      cases hi
      rw [hcell i hi']
      have hb := bounds_u8 (hwz zs[i] (List.getElem_mem hi'))
      have hd : zs.getD i 0 = zs[i] := by simp [List.getD, hi']
      rw [hd, byte_back8 (by omega)]
      congr 2
      omega
    · cases hi
def FitD (d : De) : Prop := (-9223372036854775808 ≤ d.t ∧ d.t ≤ 9223372036854775807) ∧ (-9223372036854775808 ≤ d.n ∧ d.n ≤ 9223372036854775807) ∧ (-9223372036854775808 ≤ d.z ∧ d.z ≤ 9223372036854775807) ∧ d.b.length ≤ maxLen
end
end Go.Proofs.Ytgohgmihoggcpaa
