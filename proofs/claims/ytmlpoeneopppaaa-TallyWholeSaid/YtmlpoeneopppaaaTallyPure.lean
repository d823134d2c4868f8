/-
  Layer 18 (tally), of no program: a value's bucket; a row to which a value comes; the row of many values.
-/
import Derived.Test.YtmlpoeneopppaaaBatchPure
import Derived.Test.YtmlpoeneopppaaaSatBase
import Derived.Lib.BitFns
namespace Go.Proofs.Ytmlpoeneopppaaa
set_option linter.unusedVariables false

/-- One more, at most the top. -/
def upN (n : Nat) : Nat := if n < 18446744073709551615 then n + 1 else 18446744073709551615
theorem upN_bd (n : Nat) : upN n ≤ 18446744073709551615 := by unfold upN; split <;> omega
/-- A value's bucket. -/
def bkt (v : Int) : Nat := Lib.bitLen v.toNat
theorem bkt_neg {v : Int} (h : v ≤ 0) : bkt v = 0 := by
  unfold bkt
  rw [Int.toNat_of_nonpos h]
  rfl
theorem bkt_le {v : Int} (h : v ≤ 9223372036854775807) : bkt v ≤ 63 := Lib.bitLen_le _ 63 (by omega) (by omega)
theorem bkt_half {v : Int} (h0 : 0 < v) (h1 : v ≤ 9223372036854775807) : bkt v = 1 + bkt (v / 2) := by
  unfold bkt
  rw [Lib.bitLen_half _ (by omega) (by omega)]
  congr 2
  omega
/-- As many places as are asked for, the new ones 0. -/
def padN (l : List Nat) (n : Nat) : List Nat := l ++ List.replicate (n - l.length) 0
theorem padN_length (l : List Nat) (n : Nat) : (padN l n).length = max l.length n := by
  unfold padN
  rw [List.length_append, List.length_replicate]
  omega
theorem padN_more {l : List Nat} {n : Nat} (h : n ≤ l.length) : padN l n = l := by
  unfold padN
  rw [Nat.sub_eq_zero_of_le h]
  simp
theorem padN_next {l : List Nat} {n k : Nat} (hk : l.length ≤ k) (hn : k < n) : padN l k ++ [0] = padN l (k + 1) := by
  unfold padN
  rw [List.append_assoc, Nat.succ_sub hk, List.replicate_succ']
/-- One more in a place; the places up to it are laid. -/
def incN (l : List Nat) (b : Nat) : List Nat := (padN l (b + 1)).set b (upN ((padN l (b + 1)).getD b 0))
theorem incN_length (l : List Nat) (b : Nat) : (incN l b).length = max l.length (b + 1) := by
  unfold incN
  rw [List.length_set, padN_length]
theorem padN_bd {l : List Nat} {n : Nat} (h : ∀ x ∈ l, x ≤ 18446744073709551615) : ∀ x ∈ padN l n, x ≤ 18446744073709551615 := by
  intro x hx
  unfold padN at hx
  rcases List.mem_append.1 hx with hx | hx
  · exact h x hx
  · have := List.eq_of_mem_replicate hx
    omega
theorem incN_bd {l : List Nat} {b : Nat} (h : ∀ x ∈ l, x ≤ 18446744073709551615) : ∀ x ∈ incN l b, x ≤ 18446744073709551615 := by
  intro x hx
  rcases List.mem_or_eq_of_mem_set hx with hx | rfl
  · exact padN_bd h x hx
  · exact upN_bd _

theorem plus_in {a b : Int} (h : addO a b = false) : addS a b = a + b := by
  unfold addO at h
  unfold addS
  split at h
  · cases h
  · split at h
    · cases h
    · rename_i h1 h2
      rw [if_neg h1, if_neg h2]

/-- What comes of a row's buckets. -/
def fillR (r : Rw) (v : Int) : Rw := { r with bks := if r.kind = 3 then incN r.bks (bkt v) else r.bks }
def beginR (key : ByteArray) (kind : Int) (v : Int) : Rw := fillR ⟨key, kind, 1, v, v, v, false, []⟩ v
/-- A row to which a value came. -/
def comeR (r : Rw) (v : Int) : Rw :=
  fillR ⟨r.key, r.kind, upN r.many, if r.kind = 2 then v else addS r.sum v, if v < r.least then v else r.least, if r.most < v then v else r.most, if r.kind = 2 then r.over else r.over || addO r.sum v, r.bks⟩ v
def zeroR : Rw := ⟨⟨#[]⟩, 0, 0, 0, 0, 0, false, []⟩
/-- The row of values. -/
def foldR (key : ByteArray) (kind : Int) : List Int → Rw
  | [] => zeroR
  | v :: l => l.foldl comeR (beginR key kind v)
def In64 (v : Int) : Prop := -9223372036854775808 ≤ v ∧ v ≤ 9223372036854775807
/-- A row that a machine holds. -/
structure OkR (r : Rw) : Prop where
  many : r.many ≤ 18446744073709551615
  sum : In64 r.sum
  least : In64 r.least
  most : In64 r.most
  bks : ∀ x ∈ r.bks, x ≤ 18446744073709551615
  len : r.bks.length ≤ 100
theorem OkR.fill {r : Rw} {v : Int} (h : OkR r) (hv : In64 v) : OkR (fillR r v) := by
  refine ⟨h.many, h.sum, h.least, h.most, ?_, ?_⟩
  · unfold fillR
    dsimp only
    split
    · exact incN_bd h.bks
    · exact h.bks
  · unfold fillR
    dsimp only
    have := h.len
    have := bkt_le hv.2
    split
    · rw [incN_length]; omega
    · omega
theorem OkR.begin (key : ByteArray) (kind : Int) {v : Int} (hv : In64 v) : OkR (beginR key kind v) :=
  OkR.fill ⟨(by decide : (1 : Nat) ≤ 18446744073709551615), hv, hv, hv, fun x h => by simp at h, by simp⟩ hv
/-- What comes of the other fields. -/
def headR (r : Rw) (v : Int) : Rw := ⟨r.key, r.kind, upN r.many, if r.kind = 2 then v else addS r.sum v, if v < r.least then v else r.least, if r.most < v then v else r.most, if r.kind = 2 then r.over else r.over || addO r.sum v, r.bks⟩
theorem comeR_eq (r : Rw) (v : Int) : comeR r v = fillR (headR r v) v := rfl
theorem OkR.head {r : Rw} {v : Int} (h : OkR r) (hv : In64 v) : OkR (headR r v) := by
  refine ⟨upN_bd _, ?_, ?_, ?_, h.bks, h.len⟩
  · unfold headR
    dsimp only
    split
    · exact hv
    · exact addS_bd _ _ h.sum.1 h.sum.2 hv.1 hv.2
  · unfold headR
    dsimp only
    split
    · exact hv
    · exact h.least
  · unfold headR
    dsimp only
    split
    · exact hv
    · exact h.most
theorem OkR.come {r : Rw} {v : Int} (h : OkR r) (hv : In64 v) : OkR (comeR r v) := (h.head hv).fill hv
theorem foldR_next {key : ByteArray} {kind : Int} {v : Int} {l : List Int} {k : Nat} {x : Int} (hx : l[k]? = some x) :
    foldR key kind (v :: l.take (k + 1)) = comeR (foldR key kind (v :: l.take k)) x := by
  show (l.take (k + 1)).foldl comeR (beginR key kind v) = comeR ((l.take k).foldl comeR (beginR key kind v)) x
  rw [List.take_add_one, hx, List.foldl_append]
  rfl
theorem foldR_ok {key : ByteArray} {kind : Int} {v : Int} {l : List Int} (hv : In64 v) (hl : ∀ x ∈ l, In64 x) : OkR (foldR key kind (v :: l)) := by
  show OkR (l.foldl comeR (beginR key kind v))
  suffices ∀ r, OkR r → OkR (l.foldl comeR r) from this _ (OkR.begin key kind hv)
  induction l with
  | nil => intro r h; exact h
  | cons x l ih => intro r h; exact ih (fun y hy => hl y (by simp [hy])) _ (h.come (hl x (by simp)))
end Go.Proofs.Ytmlpoeneopppaaa
