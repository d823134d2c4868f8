/-
  Layer 15 (sample) as plain functions: thresholds, and which keys are kept.
-/
import Derived.Test.YtidpldnkpacobaaMixPure
namespace Go.Proofs.Ytidpldnkpacobaa
set_option linter.unusedVariables false

def up2 (l : List Int) (j : Nat) : Bool := decide (l.getD j 0 ≤ l.getD (j + 1) 0)
/-- Is none below the one ahead of it? -/
def sortedB (l : List Int) : Bool := (List.range (l.length - 1)).all (up2 l)
/-- Thresholds of one class, of one level or more. -/
def riseB (l : List Int) : Bool := decide (l.getD 0 0 = 0) && sortedB l && decide (l.getD (l.length - 1) 0 ≤ 65536)
def goodC (n : Nat) (l : List Int) : Bool := decide (l.length = n) && riseB l
/-- How many levels. -/
def lev (ls : List (List Int)) : Nat := (ls.getD 0 []).length
def mayL (ls : List (List Int)) : Bool := decide (1 ≤ ls.length) && decide (ls.length ≤ 4) && decide (1 ≤ lev ls) && decide (lev ls ≤ 8) && ls.all (goodC (lev ls))
def thereB (ls : List (List Int)) (c v : Int) : Bool := mayL ls && decide (0 ≤ c) && decide (c < ls.length) && decide (0 ≤ v) && decide (v < lev ls)
def thr (ls : List (List Int)) (c v : Int) : Int := (ls.getD c.toNat []).getD v.toNat 0
def zsOf (key : ByteArray) : List Int := key.data.toList.map fun u => (u.toNat : Int)
def partK (key : ByteArray) : Int := mixOf (zsOf key) % 65536
/-- Is a key kept at this threshold? -/
def keptAt (t : Int) (key : ByteArray) : Bool := decide (t ≤ partK key)
def lostAt (t : Int) (keys : List ByteArray) : Nat := keys.countP fun k => !keptAt t k

theorem getD_some {α : Type} {l : List α} {i : Nat} {x d : α} (h : l[i]? = some x) : l.getD i d = x := by
  rw [List.getD_eq_getElem?_getD, h]; rfl
theorem sorted_iff {l : List Int} : sortedB l = true ↔ ∀ j, j + 1 < l.length → l.getD j 0 ≤ l.getD (j + 1) 0 := by
  unfold sortedB up2
  rw [List.all_eq_true]
  simp only [List.mem_range, decide_eq_true_eq]
  exact ⟨fun h j hj => h j (by omega), fun h j hj => h j (by omega)⟩
theorem sorted_no {l : List Int} {j : Nat} (hj : j + 1 < l.length) (h : l.getD (j + 1) 0 < l.getD j 0) : sortedB l = false := by
  cases e : sortedB l with
  | false => rfl
  | true => have := sorted_iff.1 e j hj; omega
theorem sorted_le {l : List Int} (h : sortedB l = true) : ∀ k j, j + k < l.length → l.getD j 0 ≤ l.getD (j + k) 0 := by
  intro k
  induction k with
  | zero => intro j _; exact Int.le_refl _
  | succ k ih => intro j hj; exact Int.le_trans (ih j (by omega)) (sorted_iff.1 h (j + k) hj)
theorem rise_parts {l : List Int} (h : riseB l = true) : l.getD 0 0 = 0 ∧ sortedB l = true ∧ l.getD (l.length - 1) 0 ≤ 65536 := by
  unfold riseB at h
  simp only [Bool.and_eq_true, decide_eq_true_eq] at h
  exact ⟨h.1.1, h.1.2, h.2⟩
theorem rise_bd {l : List Int} (h : riseB l = true) {j : Nat} (hj : j < l.length) : 0 ≤ l.getD j 0 ∧ l.getD j 0 ≤ 65536 := by
  obtain ⟨h1, h2, h3⟩ := rise_parts h
  have a := sorted_le h2 j 0 (by omega)
  have b := sorted_le h2 (l.length - 1 - j) j (by omega)
  rw [Nat.zero_add] at a
  rw [show j + (l.length - 1 - j) = l.length - 1 by omega] at b
  omega
/-- The document's own way to ask. -/
def refB (l : List Int) : Prop := l.getD 0 0 = 0 ∧ ∀ j, j + 1 < l.length → l.getD j 0 ≤ l.getD (j + 1) 0 ∧ l.getD (j + 1) 0 ≤ 65536
theorem ref_rise {l : List Int} (h : refB l) (hl : 1 ≤ l.length) : riseB l = true := by
  unfold riseB
  rw [decide_eq_true h.1, sorted_iff.2 (fun j hj => (h.2 j hj).1), decide_eq_true]
  · rfl
  · by_cases e : l.length = 1
    · rw [e]; have := h.1; simp only [Nat.sub_self]; omega
    · have := (h.2 (l.length - 2) (by omega)).2
      rwa [show l.length - 2 + 1 = l.length - 1 by omega] at this
theorem rise_ref {l : List Int} (h : riseB l = true) : refB l := by
  refine ⟨(rise_parts h).1, fun j hj => ⟨sorted_iff.1 (rise_parts h).2.1 j hj, (rise_bd h hj).2⟩⟩

theorem may_parts {ls : List (List Int)} (h : mayL ls = true) : 1 ≤ ls.length ∧ ls.length ≤ 4 ∧ 1 ≤ lev ls ∧ lev ls ≤ 8 ∧ ∀ l ∈ ls, l.length = lev ls ∧ riseB l = true := by
  unfold mayL at h
  simp only [Bool.and_eq_true, decide_eq_true_eq, List.all_eq_true] at h
  obtain ⟨⟨⟨⟨h1, h2⟩, h3⟩, h4⟩, h5⟩ := h
  refine ⟨h1, h2, h3, h4, fun l hl => ?_⟩
  have := h5 l hl
  unfold goodC at this
  simp only [Bool.and_eq_true, decide_eq_true_eq] at this
  exact this
theorem there_parts {ls : List (List Int)} {c v : Int} (h : thereB ls c v = true) : mayL ls = true ∧ 0 ≤ c ∧ c < ls.length ∧ 0 ≤ v ∧ v < lev ls := by
  unfold thereB at h
  simp only [Bool.and_eq_true, decide_eq_true_eq] at h
  exact ⟨h.1.1.1.1, h.1.1.1.2, h.1.1.2, h.1.2, h.2⟩
theorem there_row {ls : List (List Int)} {c v : Int} (h : thereB ls c v = true) : ∃ l t, ls[c.toNat]? = some l ∧ l[v.toNat]? = some t ∧ l.length = lev ls ∧ riseB l = true ∧ thr ls c v = t ∧ 0 ≤ t ∧ t ≤ 65536 := by
  obtain ⟨hm, c0, c1, v0, v1⟩ := there_parts h
  have hcl : c.toNat < ls.length := by omega
  obtain ⟨l, hl⟩ : ∃ l, ls[c.toNat]? = some l := ⟨_, List.getElem?_eq_getElem hcl⟩
  obtain ⟨_, _, _, _, hg⟩ := may_parts hm
  obtain ⟨e, hr⟩ := hg l (List.mem_of_getElem? hl)
  have hvl : v.toNat < l.length := by omega
  obtain ⟨t, ht⟩ : ∃ t, l[v.toNat]? = some t := ⟨_, List.getElem?_eq_getElem hvl⟩
  have bd := rise_bd hr hvl
  rw [getD_some ht] at bd
  refine ⟨l, t, hl, ht, e, hr, ?_, bd.1, bd.2⟩
  unfold thr
  rw [getD_some hl, getD_some ht]
theorem part_bd (key : ByteArray) : 0 ≤ partK key ∧ partK key ≤ 65535 := by unfold partK; omega
/-- At level 0 all are kept. -/
theorem kept_zero {ls : List (List Int)} {c : Int} (h : thereB ls c 0 = true) (key : ByteArray) : keptAt (thr ls c 0) key = true := by
  obtain ⟨l, t, hl, ht, _, hr, e, _, _⟩ := there_row h
  have h0 := (rise_parts hr).1
  rw [show (0 : Int).toNat = 0 from rfl] at ht
  rw [getD_some ht] at h0
  have := part_bd key
  unfold keptAt
  exact decide_eq_true (by omega)
/-- What is kept at a level is kept at the one below. -/
theorem kept_less {ls : List (List Int)} {c v : Int} (h : thereB ls c v = true) (h2 : thereB ls c (v + 1) = true) {key : ByteArray} (hk : keptAt (thr ls c (v + 1)) key = true) : keptAt (thr ls c v) key = true := by
  obtain ⟨l, t, hl, ht, _, hr, e, _, _⟩ := there_row h
  obtain ⟨l', t', hl', ht', _, _, e', _, _⟩ := there_row h2
  rw [hl] at hl'
  cases hl'
  obtain ⟨_, _, _, v0, _⟩ := there_parts h
  rw [show (v + 1).toNat = v.toNat + 1 by omega] at ht'
  have hlt := (List.getElem?_eq_some_iff.1 ht').1
  have := sorted_iff.1 (rise_parts hr).2.1 v.toNat hlt
  rw [getD_some ht, getD_some ht'] at this
  unfold keptAt at hk ⊢
  rw [decide_eq_true_eq] at hk
  exact decide_eq_true (by omega)
theorem there_zero {ls : List (List Int)} {c v : Int} (h : thereB ls c v = true) : thereB ls c 0 = true := by
  obtain ⟨hm, c0, c1, v0, v1⟩ := there_parts h
  unfold thereB
  rw [hm, decide_eq_true c0, decide_eq_true c1, decide_eq_true (show (0 : Int) ≤ 0 by omega), decide_eq_true (by omega)]
  rfl
end Go.Proofs.Ytidpldnkpacobaa
