/-
  Layer 20 (window): what all values of a table keep to; that a window's batch may be.
-/
import Derived.Test.YtedhciolnekpaaaGreatDoorQWindowAddR
import Derived.Test.YtedhciolnekpaaaGreatDoorQWindowCloseP
import Derived.Test.YtedhciolnekpaaaGreatDoorQBatchRefMay
namespace Go.Proofs.YtedhciolnekpaaaGreatDoor
open Go.ChangeShapes Go.WideShapes Go.ChangeAt Go.RowKit
set_option linter.unusedVariables false

theorem bkOk_good {r : Rw} (h : GoodW r) : bkOk r = true := by
  unfold bkOk
  by_cases k : r.kind = 3
  · obtain ⟨b1, b2, b3⟩ := h.b3 k
    rw [if_pos k]
    simp [b1, b2, b3]
  · rw [if_neg k, h.b0 k]; rfl
theorem rowOk_good {r : Rw} (h : GoodW r) (k : keyOk r.key = true) : rowOk r = true := by
  unfold rowOk
  rw [bkOk_good h, k, decide_eq_true h.k1, decide_eq_true h.k3, decide_eq_true h.m1, decide_eq_true h.lm]
  rfl
theorem rise_up {a b : Rw} (h : ltW (nmR a) (nmR b) = true) : riseR a b = true := h
/-- Values that were added. -/
structure LOk (wd : Int) (l : List PtW) : Prop where
  pt : ∀ p ∈ l, PtOk p
  key : ∀ p ∈ l, keyOk p.nm.1 = true
  st : ∀ p ∈ l, 0 ≤ p.start ∧ p.start ≤ 1099511627776 ∧ p.start % wd = 0
theorem LOk.nil (wd : Int) : LOk wd [] := ⟨fun p h => by simp at h, fun p h => by simp at h, fun p h => by simp at h⟩
theorem LOk.left {wd : Int} {l : List PtW} (h : LOk wd l) (s : Int) : LOk wd (leftW s l) :=
  ⟨fun p hp => h.pt p (left_mem.1 hp).1, fun p hp => h.key p (left_mem.1 hp).1, fun p hp => h.st p (left_mem.1 hp).1⟩
theorem LOk.next {wd : Int} {l : List PtW} (h : LOk wd l) {p : PtW} (h1 : PtOk p) (h2 : keyOk p.nm.1 = true) (h3 : 0 ≤ p.start ∧ p.start ≤ 1099511627776 ∧ p.start % wd = 0) : LOk wd (l ++ [p]) := by
  have all : ∀ {T : PtW → Prop}, (∀ q ∈ l, T q) → T p → ∀ q ∈ l ++ [p], T q := fun ha hp q hq => by
    rcases List.mem_append.1 hq with hq | hq
    · exact ha q hq
    · rw [List.mem_singleton] at hq; subst hq; exact hp
  exact ⟨all h.pt h1, all h.key h2, all h.st h3⟩
theorem LOk.starts {wd : Int} {l : List PtW} (h : LOk wd l) : ∀ s ∈ startsW l, 0 ≤ s ∧ s ≤ 1099511627776 ∧ s % wd = 0 := fun s hs => by
  obtain ⟨p, hp, rfl⟩ := (starts_mem l).1 hs
  exact h.st p hp
theorem LOk.bd {wd : Int} {l : List PtW} (h : LOk wd l) : ∀ s ∈ startsW l, 0 ≤ s ∧ s ≤ 1099511627776 := fun s hs => ⟨(h.starts s hs).1, (h.starts s hs).2.1⟩
theorem LOk.rows {wd : Int} {l : List PtW} (h : LOk wd l) (s : Int) : ∀ r ∈ rowsW s l, GoodW r ∧ keyOk r.key = true := fun r hr => by
  refine ⟨rows_good s h.pt r hr, ?_⟩
  obtain ⟨p, hp, _, e⟩ := (rows_nm (s := s) (x := nmR r) l).1 ⟨r, hr, rfl⟩
  have := h.key p hp
  rw [e] at this
  exact this
theorem rowsOk_up {rows : List Rw} (hl : rows.length ≤ 200) (hu : RowsUp rows) (hr : ∀ r ∈ rows, rowOk r = true) : rowsOk rows = true := by
  refine rowsOk_true hl (fun j hj => ?_)
  have hj' : rows[j]? = some rows[j] := List.getElem?_eq_getElem hj
  have h1 := hr _ (List.getElem_mem hj)
  cases j with
  | zero => exact step_first hj' h1
  | succ i =>
    have hi : i < rows.length := by omega
    rw [step_next (List.getElem?_eq_getElem hi) hj' h1]
    exact rise_up (List.pairwise_iff_getElem.1 hu i (i + 1) hi hj (by omega))
theorem mayOk_win {wd : Int} {l : List PtW} (h : LOk wd l) (hl : l.length ≤ 200) {q s : Int} (h0 : 0 ≤ q) (h1 : q ≤ 2147483647) (hs : s ∈ startsW l) : mayOk ⟨q, s, rowsW s l⟩ = true := by
  obtain ⟨s0, s1, _⟩ := h.starts s hs
  have := rowsOk_up (rows := rowsW s l) (by have := rows_le s l; omega) (rows_up s l) (fun r hr => rowOk_good (h.rows s r hr).1 (h.rows s r hr).2)
  unfold mayOk
  simp [h0, h1, s0, s1, this]
theorem sized_win {wd : Int} {l : List PtW} (h : LOk wd l) (hl : l.length ≤ 200) (s : Int) : SizedR (rowsW s l) := by
  refine ⟨by have := rows_le s l; omega, fun r hr => ?_⟩
  obtain ⟨h1, h2⟩ := h.rows s r hr
  have := key_size h2
  have := h1.ok.len
  exact ⟨by omega, by omega⟩
/-- Room is kept. -/
theorem CapW.next {t : Tb} {l : List PtW} (h : CapW t l) {s : Int} {n : Nm} {v : Int} (hf : ¬ fullW t n s l) : CapW t (l ++ [⟨s, n, v⟩]) := by
  have h1 := h.wi
  refine ⟨?_, fun x => ?_⟩
  · rw [starts_len_next]
    by_cases c : s ∈ startsW l
    · rw [if_pos c]; simpa using h1
    · rw [if_neg c]
      have : ¬ t.wi ≤ (startsW l).length := fun k => hf (.inl ⟨rows_none.2 c, k⟩)
      omega
  · have h2 := h.ro x
    by_cases c : s = x
    · subst c
      have hl : (rowsW s (l ++ [⟨s, n, v⟩])).length = (rowsW s l).length + (if getW n (rowsW s l) = none then 1 else 0) := by
        rw [rows_same (p := ⟨s, n, v⟩) rfl]
        exact putW_length (rows_up _ _)
      rw [hl]
      by_cases k : getW n (rowsW s l) = none
      · rw [if_pos k]
        have : ¬ t.ro ≤ (rowsW s l).length := fun k' => hf (.inr ⟨k, k'⟩)
        omega
      · rw [if_neg k]; simpa using h2
    · rw [rows_other (p := ⟨s, n, v⟩) c]; exact h2
theorem CapW.left {t : Tb} {l : List PtW} (h : CapW t l) {s : Int} {K : List Int} (hs : startsW l = s :: K) : CapW t (leftW s l) := by
  have h1 := h.wi
  refine ⟨by rw [left_starts hs]; rw [hs, List.length_cons] at h1; omega, fun x => ?_⟩
  by_cases c : x = s
  · subst c
    have : rowsW x (leftW x l) = [] := rows_none.2 (fun hx => by
      obtain ⟨p, hp, e⟩ := (starts_mem _).1 hx
      exact (left_mem.1 hp).2 e)
    rw [this]
    have := h.ro x
    simp
    omega
  · rw [left_rows c]; exact h.ro x
theorem CapW.seq {t : Tb} {l : List PtW} (h : CapW t l) (q : Int) : CapW { t with sq := q } l := ⟨h.wi, h.ro⟩
theorem starts_nil {l : List PtW} (h : startsW l = []) : l = [] := by
  cases l with
  | nil => rfl
  | cons p r =>
    have := (starts_mem (s := p.start) (p :: r)).2 ⟨p, by simp, rfl⟩
    rw [h] at this
    simp at this
theorem many_next {l : List Rw} {k : Nat} {r : Rw} (h : l[k]? = some r) : manyW (l.take (k + 1)) = manyW (l.take k) + r.many := by
  unfold manyW
  rw [List.take_add_one, h, List.map_append, List.sum_append]
  simp
theorem many_take (l : List Rw) (k : Nat) : manyW (l.take k) ≤ manyW l := by
  have e : manyW l = manyW (l.take k) + manyW (l.drop k) := by
    unfold manyW
    rw [← List.sum_append, ← List.map_append, List.take_append_drop]
  omega
/-- Either an error, and all is as it was; or the value has come. -/
theorem add_split {N : Nat} {w w' : World} {a bm : Nat} {t : Tb} {l : List PtW} {ok : Bool} {n : Nm} {kd time val mark : Int} {e : Ending} (h : AddP N w a bm t l ok n kd time val mark e w') :
    (∃ c, e = .returned (errW c) ∧ GotP N w a bm t l w') ∨ (AskT ok kd time ∧ ¬ fullW t n (startOf t.wd time) l ∧ e = .returned .nilIface ∧ GotP N w a bm t (l ++ [⟨startOf t.wd time, n, val⟩]) w') := by
  rcases h with ⟨_, h1, h2⟩ | ⟨_, _, h1, h2⟩ | ⟨_, _, _, h1, h2⟩ | ⟨h0, _, h3, h1, h2⟩
  · exact .inl ⟨_, h1, h2⟩
  · exact .inl ⟨_, h1, h2⟩
  · exact .inl ⟨_, h1, h2⟩
  · exact .inr ⟨h0, h3, h1, h2⟩
/-- The value that has come keeps to it. -/
theorem LOk.add {wd : Int} {l : List PtW} (h : LOk wd l) (hw : 1 ≤ wd) {key : ByteArray} {kd time val : Int} (ha : AskT (keyOk key) kd time) (hv : In64 val) : LOk wd (l ++ [⟨startOf wd time, (key, kd), val⟩]) := by
  obtain ⟨s0, s1, _, s3⟩ := startOf_bd (width := wd) (time := time) hw ha.t0
  have := ha.t1
  exact h.next ⟨ha.k1, ha.k3, hv⟩ ha.o ⟨s0, by show startOf wd time ≤ _; omega, s3⟩
end Go.Proofs.YtedhciolnekpaaaGreatDoor
