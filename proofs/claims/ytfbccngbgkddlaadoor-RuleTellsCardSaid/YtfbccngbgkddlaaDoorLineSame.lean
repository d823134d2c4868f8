/-
  Layer 4: the document's own Same, at two events that are alike.
-/
import Derived.Test.YtfbccngbgkddlaaDoorLineTags
import Derived.Test.YtfbccngbgkddlaaDoorLineEvent
namespace Go.Proofs.YtfbccngbgkddlaaDoor
open Go.ChangeShapes Go.WideShapes Go.ChangeAt Go.RowKit
set_option linter.unusedVariables false

/-- Tags, wherever they lie. -/
def RdT (w : World) (A : Option Addr) (ts : Tags) : Prop :=
  ts = [] ∨ ∃ b o, A = some ⟨b, o, none⟩ ∧ ∀ i x y, ts[i]? = some (x, y) → w.cell? ⟨b, o + i * 2, none⟩ = some (.string x) ∧ w.cell? ⟨b, o + i * 2 + 1, none⟩ = some (.string y)
theorem RdT.keep {w w' : World} {A : Option Addr} {ts : Tags} (h : RdT w A ts) (hk : ∀ b o v, w.cell? ⟨b, o, none⟩ = some v → w'.cell? ⟨b, o, none⟩ = some v) : RdT w' A ts := by
  rcases h with h | ⟨b, o, e, h⟩
  · exact .inl h
  · exact .inr ⟨b, o, e, fun i x y hi => ⟨hk _ _ _ (h i x y hi).1, hk _ _ _ (h i x y hi).2⟩⟩
theorem RdT.below {w w' : World} {A : Option Addr} {ts : Tags} (h : RdT w A ts) (hb : Below w.heap.size w w') : RdT w' A ts :=
  h.keep fun b o v hc => by rw [hb.cell (World.block_lt_of_cell? w _ hc), hc]
theorem RdT.alloc {w : World} {A : Option Addr} {ts : Tags} (h : RdT w A ts) (x : Obj) : RdT (w.alloc x) A ts := h.below ((Below.refl _ _).alloc (Nat.le_refl _) _)
theorem tagCells_at (ts : Tags) : ∀ i x y, ts[i]? = some (x, y) → (tagCells ts)[i * 2]? = some (.string x) ∧ (tagCells ts)[i * 2 + 1]? = some (.string y) := by
  induction ts with
  | nil => intro i x y h; simp at h
  | cons t r ih =>
    intro i x y h
    cases i with
    | zero => simp at h; subst h; exact ⟨rfl, rfl⟩
    | succ i =>
      have h' : r[i]? = some (x, y) := by simpa using h
      have := ih i x y h'
      rw [show (i + 1) * 2 = i * 2 + 1 + 1 by omega]
      exact this
theorem OwnT.rd {w : World} {base : Nat} {A : Option Addr} {cap : Nat} {ts : Tags} (h : OwnT w base A cap ts) : RdT w A ts := by
  rcases h.2 with ⟨hv, hn⟩ | ⟨g, cap', cur, hv, hb, hg, hnc, hcm, hcs, htake⟩
  · exact .inl (List.eq_nil_of_length_eq_zero hn)
  · have hA : A = some ⟨g, 0, none⟩ := by cases hv; rfl
    refine .inr ⟨g, 0, hA, fun i x y hi => ?_⟩
    obtain ⟨h0, h1⟩ := tagCells_at ts i x y hi
    have hl := tagCells_length ts
    have hi' : i < ts.length := (List.getElem?_eq_some_iff.1 hi).1
    constructor
    · rw [Nat.zero_add, cell_of_block hg, ← h0, ← htake, List.getElem?_take, if_pos (by omega)]; simp
    · rw [Nat.zero_add, cell_of_block hg, ← h1, ← htake, List.getElem?_take, if_pos (by omega)]; simp

theorem eq_pair (x y : ByteArray) (w : World) : (Op.equalIn 10000 44 (.agg #[.string x, .string y]) (.agg #[.string x, .string y])).run Tryd.prog w = .ok true w := by
  have u9 := Tryd.underlying9
  have a9 := Tryd.isAgg9
  have z9 := Tryd.sizeOf9
  have hS : Tryd.prog.underlying 44 = some (.struct (Tryd.prog.fieldsOf 44)) := by kernel_rfl
  have hp : Tryd.prog.stoodInHeld 44 = false := by kernel_rfl
  rw [show (10000 : Nat) = 9999 + 1 from rfl, run_equalIn_agg w 9999 44 _ _ hS hp]
  simp only [Program.fieldsOf, Tryd.underlying44]
  go_simp
theorem guard_pair : Tryd.prog.eqGuardType Tryd.prog.depth 44 = false := by kernel_rfl

end Go.Proofs.YtfbccngbgkddlaaDoor
