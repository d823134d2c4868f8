/-
  Layer 4: rows of bytes of one's own, appended to by strings and by bytes that are laid for it; blocks of another kind stay.
-/
import Derived.Test.YtfbccngbgkddlaaDoorLinePrintR
import Derived.Test.YtfbccngbgkddlaaDoorOwnB
namespace Go.Proofs.YtfbccngbgkddlaaDoor
open Go.ChangeShapes Go.WideShapes Go.ChangeAt Go.RowKit
set_option linter.unusedVariables false

theorem EvB.gr {B : Nat} {w w' : World} {g : Nat} {n : ByteArray} {A : Option Addr} {l c : Nat} {k v t : Int} (h : EvB w g n A l c k v t) (r : Gr B w w') : EvB w' g n A l c k v t :=
  r.block h (fun _ _ e => by cases e)
theorem Go4.gr {w : World} {g : Nat} {n : ByteArray} {A : Option Addr} {c : Nat} {k v t : Int} {ts : Tags} {wr wr' : World} (h : Go4 w g n A c k v t ts wr) (hr : RdT w A ts) (r : Gr w.heap.size wr wr') : Go4 w g n A c k v t ts wr' :=
  ⟨h.below.trans r.below, h.ev.gr r, hr.below (h.below.trans r.below)⟩

/-- A round of Print's loop: a comma, the key, an equals sign, the value. -/
theorem round_made (w : World) (B : Nat) (v : Value) (l : List UInt8) (x y : ByteArray) (h : OB w B v l) (hB : B ≤ w.heap.size) (hl : l.length ≤ 5000) (sx : x.size ≤ 100) (sy : y.size ≤ 100) :
    ∃ v1 w1 v2 w2 v3 w3 v4 w4,
      (Builtin.append_ #[60, 60] 60 #[v, .slice (some ⟨w.heap.size + 1, 0, none⟩) 1 1]).run Tryd.prog ((w.alloc (.cells #[.string x, .string y] 44)).alloc (.cells #[.int .u8 44] 5)) = .ok v1 w1 ∧
      (Builtin.append_ #[60, 9] 60 #[v1, .string x]).run Tryd.prog w1 = .ok v2 w2 ∧
      (Builtin.append_ #[60, 60] 60 #[v2, .slice (some ⟨w2.heap.size, 0, none⟩) 1 1]).run Tryd.prog (w2.alloc (.cells #[.int .u8 61] 5)) = .ok v3 w3 ∧
      (Builtin.append_ #[60, 9] 60 #[v3, .string y]).run Tryd.prog w3 = .ok v4 w4 ∧
      w1.cell? ⟨w.heap.size, 0, none⟩ = some (.string x) ∧ w3.cell? ⟨w.heap.size, 1, none⟩ = some (.string y) ∧
      OB w4 B v4 (l ++ tagL (x, y)) ∧ Gr B w w4 := by
  have hx : x.data.toList.length = x.size := by simp
  have hy : y.data.toList.length = y.size := by simp
  have g0 := (Gr.refl B w).alloc hB (.cells #[.string x, .string y] 44)
  have hT : (w.alloc (.cells #[.string x, .string y] 44)).heap[w.heap.size]? = some (.cells #[.string x, .string y] 44 (0, 0)) := heap_alloc_new w _
  obtain ⟨v1, w1, r1, o1, g1⟩ := ob_lit (h.alloc (.cells #[.string x, .string y] 44)) [44] (by simp; omega) (Nat.le_trans hB g0.size)
  have g01 := g0.trans g1
  obtain ⟨v2, w2, r2, o2, g2⟩ := ob_str o1 x (by simp; omega) (Nat.le_trans hB g01.size)
  have g02 := g01.trans g2
  obtain ⟨v3, w3, r3, o3, g3⟩ := ob_lit o2 [61] (by simp; omega) (Nat.le_trans hB g02.size)
  have g03 := g02.trans g3
  obtain ⟨v4, w4, r4, o4, g4⟩ := ob_str o3 y (by simp; omega) (Nat.le_trans hB g03.size)
  refine ⟨v1, w1, v2, w2, v3, w3, v4, w4, ?_, r2, r3, r4, ?_, ?_, ?_, g03.trans g4⟩
  · rw [World.size_alloc] at r1; exact r1
  · exact cell_of_block (g1.block hT (fun _ _ e => by cases e))
  · exact cell_of_block ((g1.trans (g2.trans g3)).block hT (fun _ _ e => by cases e))
  · unfold tagL
    simpa using o4
end Go.Proofs.YtfbccngbgkddlaaDoor
