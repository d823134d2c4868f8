/-
  Layer 18 (tally), of no program: what a row of values tells of them: how many there were, what all buckets have, where all lie, their sum.
-/
import Derived.Test.YtmlpoeneopppaaaTallyRefFold
namespace Go.Proofs.Ytmlpoeneopppaaa
open Go.ChangeShapes Go.WideShapes Go.ChangeAt Go.RowKit
set_option linter.unusedVariables false

/-- The sum of values, as a machine adds them. -/
def wS (l : List Int) : Int := l.foldl (fun s x => IntKind.i64.wrap (s + x)) 0
theorem wS_next {l : List Int} {k : Nat} {x : Int} (hx : l[k]? = some x) : wS (l.take (k + 1)) = IntKind.i64.wrap (wS (l.take k) + x) := by
  unfold wS
  rw [List.take_add_one, hx, List.foldl_append]
  rfl
theorem set_sum : ∀ {l : List Nat} {b y : Nat} (h : b < l.length), (l.set b y).sum + l.getD b 0 = l.sum + y
  | [], b, y, h => by simp at h
  | a :: l, 0, y, h => by simp; omega
  | a :: l, b + 1, y, h => by
    have := set_sum (l := l) (b := b) (y := y) (by simpa using h)
    simp only [List.set_cons_succ, List.sum_cons, List.getD_cons_succ]
    omega
theorem getD_sum : ∀ (l : List Nat) (b : Nat), l.getD b 0 ≤ l.sum
  | [], b => by simp
  | a :: l, 0 => by simp
  | a :: l, b + 1 => by
    have := getD_sum l b
    simp only [List.getD_cons_succ, List.sum_cons]
    omega
theorem padN_sum (l : List Nat) (n : Nat) : (padN l n).sum = l.sum := by
  unfold padN
  have h0 : ∀ m : Nat, (List.replicate m 0).sum = 0 := fun m => by
    induction m with
    | zero => rfl
    | succ m ih => rw [List.replicate_succ, List.sum_cons, ih]
  rw [List.sum_append, h0]
  rfl
theorem incN_sum {l : List Nat} {b : Nat} (h : l.sum ≤ 1000) : (incN l b).sum = l.sum + 1 := by
  unfold incN
  have h1 := set_sum (l := padN l (b + 1)) (b := b) (y := upN ((padN l (b + 1)).getD b 0)) (by rw [padN_length]; omega)
  have h2 := getD_sum (padN l (b + 1)) b
  rw [padN_sum] at h1 h2
  have h3 : upN ((padN l (b + 1)).getD b 0) = (padN l (b + 1)).getD b 0 + 1 := by unfold upN; rw [if_pos (by omega)]
  omega
theorem take_sum (l : List Nat) : ∀ k, (l.take k).sum ≤ l.sum
  | 0 => by simp
  | k + 1 => by
    cases l with
    | nil => simp
    | cons a l =>
      have := take_sum l k
      simp only [List.take_succ_cons, List.sum_cons]
      omega
theorem take_sum_next {l : List Nat} {k x : Nat} (hx : l[k]? = some x) : (l.take (k + 1)).sum = (l.take k).sum + x := by
  rw [List.take_add_one, hx, List.sum_append]
  simp

/-- What a row tells of the values that came to it. -/
structure Fits (kind : Int) (l : List Int) (r : Rw) : Prop where
  kind_ : r.kind = kind
  many : r.many = l.length
  bks3 : kind = 3 → r.bks.sum = l.length
  bks0 : kind ≠ 3 → r.bks = []
  lo : ∀ x ∈ l, r.least ≤ x ∧ x ≤ r.most
  on : l ≠ [] → r.least ∈ l ∧ r.most ∈ l
  last : kind = 2 → ∀ x, l.getLast? = some x → r.sum = x
  sum : kind ≠ 2 → r.over = false → r.sum = wS l
theorem Fits.none (key : ByteArray) (kind : Int) : Fits kind [] (noneR key kind) :=
  ⟨rfl, rfl, fun _ => rfl, fun _ => rfl, fun x h => by simp at h, fun h => absurd rfl h, fun _ x h => by simp at h, fun _ _ => rfl⟩
theorem fill_fields (r : Rw) (v : Int) : (fillR r v).kind = r.kind ∧ (fillR r v).many = r.many ∧ (fillR r v).sum = r.sum ∧ (fillR r v).least = r.least ∧ (fillR r v).most = r.most ∧ (fillR r v).over = r.over := ⟨rfl, rfl, rfl, rfl, rfl, rfl⟩
theorem Fits.next {kind : Int} {l : List Int} {k : Nat} {r : Rw} {x : Int} (h : Fits kind (l.take k) r) (hx : l[k]? = some x) (hk : k ≤ 200) (ok : OkR r) (hv : In64 x) : Fits kind (l.take (k + 1)) (fillR (midR r x) x) := by
  have hk' : k < l.length := (List.getElem?_eq_some_iff.1 hx).1
  have hlen : (l.take k).length = k := by rw [List.length_take]; omega
  have e : l.take (k + 1) = l.take k ++ [x] := by rw [List.take_add_one, hx]; rfl
  have hw := wS_next hx
  have hm := h.many
  rw [hlen] at hm
  have f := fill_fields (midR r x) x
  have fb : (fillR (midR r x) x).bks = if kind = 3 then incN r.bks (bkt x) else r.bks := by
    show (if (midR r x).kind = 3 then incN (midR r x).bks (bkt x) else (midR r x).bks) = _
    rw [midR_kind, midR_bks, h.kind_]
  generalize fillR (midR r x) x = q at *
  obtain ⟨f1, f2, f3, f4, f5, f6⟩ := f
  have hl1 : (l.take (k + 1)).length = k + 1 := by rw [List.length_take]; omega
  have hb3 : kind = 3 → q.bks.sum = (l.take (k + 1)).length := fun h3 => by
    rw [fb, if_pos h3, hl1]
    have := h.bks3 h3
    rw [hlen] at this
    rw [incN_sum (by omega), this]
  have hb0 : kind ≠ 3 → q.bks = [] := fun h3 => by rw [fb, if_neg h3]; exact h.bks0 h3
  rw [midR_kind] at f1
  by_cases h0 : 0 < r.many
  · have em : midR r x = headR r x := by unfold midR; rw [if_pos h0]
    rw [em] at f2 f3 f4 f5 f6
    have ne : l.take k ≠ [] := fun e0 => by rw [e0] at hlen; simp at hlen; omega
    have f2 : q.many = upN r.many := f2
    have f3 : q.sum = if r.kind = 2 then x else addS r.sum x := f3
    have f4 : q.least = if x < r.least then x else r.least := f4
    have f5 : q.most = if r.most < x then x else r.most := f5
    have f6 : q.over = if r.kind = 2 then r.over else r.over || addO r.sum x := f6
    obtain ⟨o1, o2⟩ := h.on ne
    have l1 := (h.lo _ o1).2
    have l2 := (h.lo _ o2).1
    refine ⟨by rw [f1]; exact h.kind_, by rw [f2, hl1]; unfold upN; rw [if_pos (by omega)]; omega, hb3, hb0, fun y hy => ?_, fun _ => ?_, fun h2 y hy => ?_, fun h2 ho => ?_⟩
    · rw [e] at hy
      rw [f4, f5]
      rcases List.mem_append.1 hy with hy | hy
      · have := h.lo y hy
        constructor <;> split <;> omega
      · obtain rfl : y = x := by simpa using hy
        constructor <;> split <;> omega
    · rw [e, f4, f5]
      constructor
      · split
        · simp
        · exact List.mem_append_left _ o1
      · split
        · simp
        · exact List.mem_append_left _ o2
    · rw [e] at hy
      simp at hy
      rw [f3, h.kind_, if_pos h2, hy]
    · rw [f6, h.kind_, if_neg h2] at ho
      simp only [Bool.or_eq_false_iff] at ho
      have hs := h.sum h2 ho.1
      have hb := addS_bd r.sum x ok.sum.1 ok.sum.2 hv.1 hv.2
      rw [f3, h.kind_, if_neg h2, hw, ← hs]
      rw [plus_in ho.2] at hb ⊢
      rw [IntKind.wrap_i64]
      omega
  · have em : midR r x = ⟨r.key, r.kind, 1, x, x, x, false, r.bks⟩ := by unfold midR; rw [if_neg h0]
    rw [em] at f2 f3 f4 f5 f6
    have k0 : k = 0 := by omega
    subst k0
    have f2 : q.many = 1 := f2
    have f3 : q.sum = x := f3
    have f4 : q.least = x := f4
    have f5 : q.most = x := f5
    have e : l.take 1 = [x] := by rw [e]; rfl
    rw [Nat.zero_add] at hl1 hb3 hw
    rw [Nat.zero_add]
    refine ⟨by rw [f1]; exact h.kind_, by rw [f2, hl1], hb3, hb0, fun y hy => ?_, fun _ => ?_, fun h2 y hy => ?_, fun h2 ho => ?_⟩
    · rw [e] at hy
      obtain rfl : y = x := by simpa using hy
      rw [f4, f5]
      exact ⟨Int.le_refl _, Int.le_refl _⟩
    · rw [e, f4, f5]
      simp
    · rw [e] at hy
      simp at hy
      rw [f3, hy]
    · rw [f3, hw]
      show x = IntKind.i64.wrap (0 + x)
      rw [IntKind.wrap_i64]
      have := hv.1
      have := hv.2
      omega
theorem stR_fits (key : ByteArray) (kind : Int) {l : List Int} (hl : l.length ≤ 200) (hz : ∀ x ∈ l, In64 x) : ∀ k, k ≤ l.length → Fits kind (l.take k) (stR key kind (l.take k))
  | 0, _ => by rw [List.take_zero]; exact Fits.none key kind
  | k + 1, hk => by
    have hx : l[k]? = some l[k] := List.getElem?_eq_getElem (by omega)
    rw [stR_next hx]
    exact (stR_fits key kind hl hz k (by omega)).next hx (by omega) (stR_ok (fun y hy => hz y (List.mem_of_mem_take hy))) (hz _ (List.getElem_mem _))
theorem foldR_fits (key : ByteArray) (kind : Int) {l : List Int} (h0 : 0 < l.length) (hl : l.length ≤ 200) (hz : ∀ x ∈ l, In64 x) : Fits kind l (foldR key kind l) := by
  have := stR_fits key kind hl hz l.length (Nat.le_refl _)
  rw [List.take_length] at this
  cases l with
  | nil => simp at h0
  | cons v l => exact this
end Go.Proofs.Ytmlpoeneopppaaa
