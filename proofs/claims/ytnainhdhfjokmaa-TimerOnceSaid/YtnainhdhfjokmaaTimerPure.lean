/-
  Layer 13 (timer), pure: what is due, as a list; how many are due by a tick; the first of the least, and all in that order.
-/
import Derived.Test.YtnainhdhfjokmaaKit
namespace Go.Proofs.Ytnainhdhfjokmaa
set_option linter.unusedVariables false

abbrev Du := Int × Int
/-- In the order in which they are due. -/
def Srt (L : List Du) : Prop := L.Pairwise (fun x y => x.1 ≤ y.1)
/-- k of L are due by now. -/
structure CutAt (L : List Du) (now : Int) (k : Nat) : Prop where
  le : k ≤ L.length
  lo : ∀ (i : Nat) (d : Du), i < k → L[i]? = some d → d.1 ≤ now
  hi : ∀ (i : Nat) (d : Du), k ≤ i → L[i]? = some d → now < d.1
/-- d, at b, is the first of the least of l. -/
structure IsFirst (l : List Du) (b : Nat) (d : Du) : Prop where
  at' : l[b]? = some d
  ahead : ∀ (j : Nat) (e : Du), j < b → l[j]? = some e → d.1 < e.1
  all : ∀ (j : Nat) (e : Du), l[j]? = some e → d.1 ≤ e.1
def dropAt (l : List Du) (b : Nat) : List Du := l.take b ++ l.drop (b + 1)
/-- L: what is in l, in the order in which the first of the least is taken out. -/
inductive Sel : List Du → List Du → Prop
  | nil : Sel [] []
  | cons {l L : List Du} {b : Nat} {d : Du} : IsFirst l b d → Sel (dropAt l b) L → Sel l (d :: L)
section
variable {L M : List Du} {now now' : Int} {k k' m : Nat} {x d : Du}
theorem CutAt.uniq (h : CutAt L now k) (h' : CutAt L now k') : k = k' := by
  rcases Nat.lt_trichotomy k k' with e | e | e
  · have hl := h'.le
    obtain ⟨y, hy⟩ : ∃ y, L[k]? = some y := ⟨L[k]'(by omega), List.getElem?_eq_getElem _⟩
    have := h.hi k y (Nat.le_refl _) hy
    have := h'.lo k y e hy
    omega
  · exact e
  · have hl := h.le
    obtain ⟨y, hy⟩ : ∃ y, L[k']? = some y := ⟨L[k']'(by omega), List.getElem?_eq_getElem _⟩
    have := h'.hi k' y (Nat.le_refl _) hy
    have := h.lo k' y e hy
    omega
theorem cut_cons (h : CutAt L now k) (hd : d.1 ≤ now) : CutAt (d :: L) now (k + 1) :=
  ⟨by simpa using h.le, fun i e hi he => by
    cases i with
    | zero => simp at he; subst he; exact hd
    | succ i => exact h.lo i e (by omega) (by simpa using he), fun i e hi he => by
    cases i with
    | zero => omega
    | succ i => exact h.hi i e (by omega) (by simpa using he)⟩
theorem cut_zero (h : Srt (d :: L)) (hd : now < d.1) : CutAt (d :: L) now 0 :=
  ⟨Nat.zero_le _, fun i e hi _ => by omega, fun i e _ he => by
    have := List.mem_of_getElem? he
    rcases List.mem_cons.1 this with rfl | hm
    · exact hd
    · have := (List.pairwise_cons.1 h).1 e hm
      omega⟩
theorem cut_some : ∀ {L : List Du}, Srt L → ∀ now : Int, ∃ k, CutAt L now k
  | [], _, now => ⟨0, Nat.le_refl _, fun i d hi _ => by omega, fun i d _ hd => by simp at hd⟩
  | d :: L, h, now => by
    by_cases hd : d.1 ≤ now
    · obtain ⟨k, hk⟩ := cut_some (List.pairwise_cons.1 h).2 now
      exact ⟨k + 1, cut_cons hk hd⟩
    · exact ⟨0, cut_zero h (by omega)⟩
theorem CutAt.tail (h : CutAt (d :: L) now (k + 1)) : CutAt L now k :=
  ⟨by have := h.le; simp at this; omega, fun i e hi he => h.lo (i + 1) e (by omega) (by simpa using he), fun i e hi he => h.hi (i + 1) e (by omega) (by simpa using he)⟩
/-- More are due later on. -/
theorem CutAt.more (h : CutAt L now k) (h' : CutAt (L.drop k) now' m) (hn : now ≤ now') : CutAt L now' (k + m) := by
  have h1 := h.le
  have h2 := h'.le
  rw [List.length_drop] at h2
  refine ⟨by omega, fun i e hi he => ?_, fun i e hi he => ?_⟩
  · by_cases hik : i < k
    · have := h.lo i e hik he; omega
    · exact h'.lo (i - k) e (by omega) (by rw [List.getElem?_drop, show k + (i - k) = i by omega]; exact he)
  · exact h'.hi (i - k) e (by omega) (by rw [List.getElem?_drop, show k + (i - k) = i by omega]; exact he)
theorem Srt.nil : Srt [] := List.Pairwise.nil
theorem Srt.drop (h : Srt L) (k : Nat) : Srt (L.drop k) := List.Pairwise.sublist (List.drop_sublist _ _) h
/-- One more, behind the others of its own. -/
def insD (L : List Du) (k : Nat) (x : Du) : List Du := L.take k ++ x :: L.drop k
theorem insD_length (hk : k ≤ L.length) : (insD L k x).length = L.length + 1 := by unfold insD; simp; omega
theorem Srt.ins (h : Srt L) (c : CutAt L x.1 k) : Srt (insD L k x) := by
  unfold insD Srt
  rw [List.pairwise_append]
  refine ⟨List.Pairwise.sublist (List.take_sublist _ _) h, List.pairwise_cons.2 ⟨fun e he => ?_, h.drop k⟩, fun a ha b hb => ?_⟩
  · obtain ⟨i, hi⟩ := List.getElem?_of_mem he
    rw [List.getElem?_drop] at hi
    have := c.hi _ e (by omega) hi
    omega
  · obtain ⟨i, hi⟩ := List.getElem?_of_mem ha
    have hik : i < k := by
      have := (List.getElem?_eq_some_iff.1 hi).1
      rw [List.length_take] at this
      omega
    rw [List.getElem?_take_of_lt hik] at hi
    have h1 := c.lo i a hik hi
    rcases List.mem_cons.1 hb with rfl | hb
    · exact h1
    · obtain ⟨j, hj⟩ := List.getElem?_of_mem hb
      rw [List.getElem?_drop] at hj
      have := c.hi _ b (by omega) hj
      omega
theorem IsFirst.uniq {l : List Du} {b b' : Nat} {d' : Du} (h : IsFirst l b d) (h' : IsFirst l b' d') : b = b' ∧ d = d' := by
  have e : b = b' := by
    rcases Nat.lt_trichotomy b b' with e | e | e
    · have := h'.ahead b d e h.at'
      have := h.all b' d' h'.at'
      omega
    · exact e
    · have := h.ahead b' d' e h'.at'
      have := h'.all b d h.at'
      omega
  subst e
  have := h.at'
  rw [h'.at'] at this
  cases this
  exact ⟨rfl, rfl⟩
theorem IsFirst.lt {l : List Du} {b : Nat} (h : IsFirst l b d) : b < l.length := (List.getElem?_eq_some_iff.1 h.at').1
theorem dropAt_length {l : List Du} {b : Nat} (h : b < l.length) : (dropAt l b).length + 1 = l.length := by unfold dropAt; simp; omega
theorem dropAt_mem {l : List Du} {b : Nat} {e : Du} (h : e ∈ dropAt l b) : e ∈ l := by
  unfold dropAt at h
  rcases List.mem_append.1 h with h | h
  · exact List.mem_of_mem_take h
  · exact List.mem_of_mem_drop h
theorem Sel.len {l : List Du} (h : Sel l L) : l.length = L.length := by
  induction h with
  | nil => rfl
  | cons hf _ ih => have := dropAt_length hf.lt; simp; omega
theorem Sel.mem {l : List Du} (h : Sel l L) : ∀ e ∈ L, e ∈ l := by
  induction h with
  | nil => exact fun e he => he
  | cons hf _ ih =>
    intro e he
    rcases List.mem_cons.1 he with rfl | he
    · exact List.mem_of_getElem? hf.at'
    · exact dropAt_mem (ih e he)
theorem Sel.srt {l : List Du} (h : Sel l L) : Srt L := by
  induction h with
  | nil => exact Srt.nil
  | cons hf hs ih =>
    refine List.pairwise_cons.2 ⟨fun e he => ?_, ih⟩
    obtain ⟨j, hj⟩ := List.getElem?_of_mem (dropAt_mem (hs.mem e he))
    exact hf.all j e hj
theorem Sel.inv {l : List Du} (h : Sel l (d :: L)) : ∃ b, IsFirst l b d ∧ Sel (dropAt l b) L := by
  cases h with
  | cons hf hs => exact ⟨_, hf, hs⟩
theorem Sel.push {l : List Du} (h : Sel l L) : ∀ {k : Nat}, CutAt L x.1 k → Sel (l ++ [x]) (insD L k x) := by
  induction h with
  | nil =>
    intro k c
    obtain rfl : k = 0 := by have := c.le; simpa using this
    exact Sel.cons (b := 0) ⟨rfl, fun j e hj _ => by omega, fun j e he => by
      cases j with
      | zero => simp at he; subst he; omega
      | succ j => simp at he⟩ Sel.nil
  | @cons l L b d hf hs ih =>
    intro k c
    have hlt := hf.lt
    cases k with
    | zero =>
      have hd := c.hi 0 d (Nat.le_refl _) rfl
      have hp : ∀ j e, (l ++ [x])[j]? = some e → j ≠ l.length → x.1 < e.1 := fun j e he hj => by
        have hl := (List.getElem?_eq_some_iff.1 he).1
        simp only [List.length_append, List.length_singleton] at hl
        rw [List.getElem?_append_left (by omega)] at he
        have := hf.all j e he
        omega
      refine Sel.cons (b := l.length) ⟨by simp, fun j e hj he => hp j e he (by omega), fun j e he => ?_⟩ ?_
      · by_cases hj : j = l.length
        · subst hj; simp at he; subst he; omega
        · have := hp j e he hj; omega
      · unfold dropAt
        rw [List.take_append_of_le_length (Nat.le_refl _), List.take_length, List.drop_eq_nil_of_le (by simp), List.append_nil]
        exact Sel.cons hf hs
    | succ k =>
      have hd := c.lo 0 d (by omega) rfl
      have := ih c.tail
      unfold insD
      rw [List.take_succ_cons, List.drop_succ_cons, List.cons_append]
      refine Sel.cons (b := b) ⟨by rw [List.getElem?_append_left hlt]; exact hf.at', fun j e hj he => ?_, fun j e he => ?_⟩ ?_
      · rw [List.getElem?_append_left (by omega)] at he
        exact hf.ahead j e hj he
      · by_cases hj : j < l.length
        · rw [List.getElem?_append_left hj] at he
          exact hf.all j e he
        · have hl := (List.getElem?_eq_some_iff.1 he).1
          simp only [List.length_append, List.length_singleton] at hl
          obtain rfl : j = l.length := by omega
          simp at he; subst he; exact hd
      · have e : dropAt (l ++ [x]) b = dropAt l b ++ [x] := by
          unfold dropAt
          rw [List.take_append_of_le_length (by omega), List.drop_append_of_le_length (by omega), List.append_assoc]
        rw [e]
        exact this
end
end Go.Proofs.Ytnainhdhfjokmaa
