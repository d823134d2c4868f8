/-
  A row of whole numbers that can be read, outside of a set of blocks; the same handed in.
-/
import Derived.Test.YtidpldnkpacobaaOwnRow
namespace Go.Proofs.Ytidpldnkpacobaa
open Go.ChangeShapes Go.WideShapes Go.ChangeAt Go.RowKit
set_option linter.unusedVariables false

def encN (x : Int) : Value := .int .i64 x
/-- A row of numbers that can be read, outside of E. -/
structure RdQ (w : World) (E : Nat → Prop) (A : Option Addr) (cap : Nat) (q : List Int) : Prop where
  le : q.length ≤ cap
  nn : A = none → cap = 0
  rd : ∀ ad, A = some ad → q ≠ [] → ∃ b o, ad = ⟨b, o, none⟩ ∧ ∀ (j : Nat) (x : Int), q[j]? = some x → w.cell? ⟨b, o + j, none⟩ = some (.int .i64 x) ∧ ¬ E b
section
variable {w w' : World} {E G : Nat → Prop} {A : Option Addr} {cap : Nat} {q : List Int} {x : Int}
theorem RdQ.nil (w : World) (E : Nat → Prop) : RdQ w E none 0 [] := ⟨by simp, fun _ => rfl, fun ad h _ => by cases h⟩
theorem RdQ.keeps (h : RdQ w E A cap q) (k : Keeps G w w') (hG : ∀ g, G g → E g) : RdQ w' E A cap q :=
  ⟨h.le, h.nn, fun ad ha hq => by
    obtain ⟨b, o, e, hc⟩ := h.rd ad ha hq
    refine ⟨b, o, e, fun j x hx => ?_⟩
    obtain ⟨h1, h2⟩ := hc j x hx
    exact ⟨k.cell h1 (fun e => h2 (hG _ e)), h2⟩⟩
theorem RdQ.still (h : RdQ w E A cap q) (b : Below w.heap.size w w') : RdQ w' E A cap q := h.keeps (Keeps.of_below b (Nat.le_refl _) (fun _ => False)) (fun _ e => e.elim)
theorem RdQ.less (h : RdQ w E A cap q) (hG : ∀ g, G g → g < w.heap.size → E g) : RdQ w G A cap q :=
  ⟨h.le, h.nn, fun ad ha hq => by
    obtain ⟨b, o, e, hc⟩ := h.rd ad ha hq
    refine ⟨b, o, e, fun j x hx => ?_⟩
    obtain ⟨h1, h2⟩ := hc j x hx
    exact ⟨h1, fun e => h2 (hG _ e (World.block_lt_of_cell? w _ h1))⟩⟩
theorem RdQ.at (h : RdQ w E A cap q) {j : Nat} (hj : q[j]? = some x) : ∃ b o, A = some ⟨b, o, none⟩ ∧ w.cell? ⟨b, o + j, none⟩ = some (.int .i64 x) ∧ ¬ E b := by
  cases A with
  | none =>
    have := h.nn rfl
    have := h.le
    have := (List.getElem?_eq_some_iff.1 hj).1
    omega
  | some ad =>
    obtain ⟨b, o, rfl, hc⟩ := h.rd ad rfl (fun e => by subst e; simp at hj)
    obtain ⟨h1, h2⟩ := hc j x hj
    exact ⟨b, o, rfl, h1, h2⟩
/-- .. all that is read lies in one place. -/
theorem RdQ.all (h : RdQ w E A cap q) : q = [] ∨ ∃ b o, A = some ⟨b, o, none⟩ ∧ ¬ E b ∧ b < w.heap.size ∧ ∀ (j : Nat) (x : Int), q[j]? = some x → w.cell? ⟨b, o + j, none⟩ = some (.int .i64 x) := by
  cases q with
  | nil => exact .inl rfl
  | cons x q =>
    obtain ⟨b, o, rfl, h1, h2⟩ := h.at (j := 0) rfl
    refine .inr ⟨b, o, rfl, h2, World.block_lt_of_cell? w _ h1, fun j y hy => ?_⟩
    obtain ⟨b', o', e, h3, _⟩ := h.at hy
    cases e
    exact h3
theorem owns_rdq {base : Nat} {v : Value} (h : w.ownsRow base 3 1 v q.length (q.map encN)) (hE : ∀ g, v.ownBlock = some g → ¬ E g) : ∃ A cap, v = .slice A q.length cap ∧ RdQ w E A cap q := by
  rcases h.2 with ⟨rfl, hn⟩ | ⟨g, cap, cur, rfl, hb, hc, hle, _⟩
  · obtain rfl := List.length_eq_zero_iff.1 hn
    exact ⟨none, 0, rfl, RdQ.nil w E⟩
  · refine ⟨some ⟨g, 0, none⟩, cap, rfl, hle, (fun e => by cases e), fun ad ha _ => ?_⟩
    cases ha
    refine ⟨g, 0, rfl, fun j x hx => ⟨?_, hE g rfl⟩⟩
    have := World.ownsRow.cells h (g := g) rfl j (encN x) (by rw [List.getElem?_map, hx]; rfl)
    rw [Addr.add_lit] at this
    exact this
theorem off_addQ (b o i : Nat) : (⟨b, o, none⟩ : Addr).add i = ⟨b, o + i, none⟩ := by
  unfold Addr.add
  split
  · subst_vars; rfl
  · rfl
theorem one_encN (q : List Int) : ∀ u ∈ q.map encN, u.oneCell' = true := by
  intro u hu
  obtain ⟨x, _, rfl⟩ := List.mem_map.1 hu
  rfl
/-- 'append([]int{}, l...)'. -/
theorem grow_ints {base : Nat} {v : Value} (own : w.ownsRow base 3 1 v 0 []) (h : RdQ w E A cap q) (hl : q.length ≤ 1000) (hb : base ≤ w.heap.size) :
    ∃ A1 c1 w1, (Builtin.append_ #[26, 26] 26 #[v, .slice A q.length cap]).run Try.prog w = .ok (.slice A1 q.length c1) w1 ∧
      w1.ownsRow base 3 1 (.slice A1 q.length c1) q.length (q.map encN) ∧ w.grownBy w1 v.ownBlock ∧ ((Value.slice A1 q.length c1).ownBlock = v.ownBlock ∨ (Value.slice A1 q.length c1).ownBlock = some w.heap.size) := by
  obtain ⟨v', w', hrun, hown, hgr, hat⟩ := row_grow (ty := 26) (w := w) Try.underlying26 infoI rfl own (A := A) (m := q.length) (cap := cap) (news := q.map encN) (by simp)
    (fun e => by have h1 := h.nn e; have h2 := h.le; have : q = [] := List.length_eq_zero_iff.1 (by omega); subst this; exact ⟨h1, rfl⟩)
    (fun ad ha j u hu => by
      obtain ⟨b, o, rfl, hc⟩ := h.rd ad ha (fun e => by subst e; simp at hu)
      rw [List.getElem?_map] at hu
      cases e : q[j]? with
      | none => rw [e] at hu; cases hu
      | some x =>
        rw [e] at hu
        cases hu
        rw [off_addQ]
        exact (hc j x e).1) (one_encN q) (by omega) (by omega) hb
  rw [Nat.zero_add] at hown
  rw [List.nil_append] at hown
  obtain ⟨A1, c1, rfl, _⟩ := owns_view hown
  exact ⟨A1, c1, w', hrun, hown, hgr, hat⟩
end
end Go.Proofs.Ytidpldnkpacobaa
