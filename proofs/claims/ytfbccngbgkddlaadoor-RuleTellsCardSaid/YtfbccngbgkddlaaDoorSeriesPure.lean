/-
  Layer 5 (series), of no program: tags in the order of their keys; what a key is of.
-/
import Derived.Test.YtfbccngbgkddlaaDoorLineTrip
import Derived.Shelf.SlSortCmp.SmallK
import Derived.Sort.LotA
import Derived.Sort.Walk0
import Derived.Lib.Bytealg
namespace Go.Proofs.YtfbccngbgkddlaaDoor
open Go.RowKit Go.Sort
set_option linter.unusedVariables false

def keyOf (t : ByteArray × ByteArray) : List UInt8 := t.1.data.toList
def cmpKey (a b : ByteArray × ByteArray) : Int := Lib.compareBytes (keyOf a) (keyOf b)
def ltK (a b : ByteArray × ByteArray) : Bool := decide (keyOf a < keyOf b)
theorem cmp_lt : ∀ a b : List UInt8, Lib.compareBytes a b < 0 ↔ a < b
  | [], [] => by simp [Lib.compareBytes]
  | [], _ :: _ => by simp [Lib.compareBytes]
  | _ :: _, [] => by simp [Lib.compareBytes]
  | x :: a, y :: b => by
    have ih := cmp_lt a b
    unfold Lib.compareBytes
    rw [List.cons_lt_cons_iff]
    by_cases h1 : x < y
    · simp [h1]
    · by_cases h2 : y < x
      · have hne : x ≠ y := fun e => by subst e; exact absurd h2 (UInt8.lt_irrefl _)
        simp [h1, h2, hne]
      · have e : x = y := UInt8.le_antisymm (UInt8.not_lt.1 h2) (UInt8.not_lt.1 h1)
        subst e
        simp [h1, ih]
theorem ltOf_key : ltOf cmpKey = ltK := by
  funext a b
  show decide (cmpKey a b < 0) = ltK a b
  exact decide_eq_decide.2 (cmp_lt _ _)
theorem swo_key : SWO ltK where
  irrefl x := by simp [ltK, List.lt_irrefl]
  trans x y z h1 h2 := by simp only [ltK, decide_eq_true_eq] at *; exact List.lt_trans h1 h2
  ntrans x y z h1 h2 := by
    simp only [ltK, decide_eq_false_iff_not, List.not_lt] at *
    exact List.le_trans h2 h1

/-- Tags in the order of their keys, as the library's sort lays them. -/
def sortT (ts : Tags) : Tags := (Sort.insertionSort ltK ts.toArray 0 ts.length).toList
theorem sortT_spec (ts : Tags) : (sortT ts).Perm ts ∧ (sortT ts).Pairwise fun a b => ltK b a = false := by
  have h := insertionSort_holds (lt := ltK) swo_key ts.toArray 0 ts.length (Nat.zero_le _) (by simp)
  obtain ⟨⟨hsz, _, hp⟩, hs⟩ := h
  have hsz' : (Sort.insertionSort ltK ts.toArray 0 ts.length).size = ts.length := by rw [hsz]; simp
  have e1 : (Sort.insertionSort ltK ts.toArray 0 ts.length).extract 0 ts.length = Sort.insertionSort ltK ts.toArray 0 ts.length := by
    have := Array.extract_size (xs := Sort.insertionSort ltK ts.toArray 0 ts.length)
    rwa [hsz'] at this
  have e2 : ts.toArray.extract 0 ts.length = ts.toArray := by
    simp
  rw [e1, e2] at hp
  refine ⟨by simpa [sortT] using hp, ?_⟩
  rw [List.pairwise_iff_getElem]
  intro i j hi hj hij
  have hi' : i < (Sort.insertionSort ltK ts.toArray 0 ts.length).size := by simpa [sortT] using hi
  have hj' : j < (Sort.insertionSort ltK ts.toArray 0 ts.length).size := by simpa [sortT] using hj
  have := hs i j (Nat.zero_le _) hij (by omega)
  rw [getElem!_pos _ j hj', getElem!_pos _ i hi'] at this
  simpa [sortT] using this
theorem sortT_perm (ts : Tags) : (sortT ts).Perm ts := (sortT_spec ts).1
theorem sortT_len (ts : Tags) : (sortT ts).length = ts.length := (sortT_perm ts).length_eq

/-- Whether each key is greater than the one ahead of it. -/
def riseB : Tags → Bool
  | a :: b :: r => ltK a b && riseB (b :: r)
  | _ => true
theorem rise_iff : ∀ ts : Tags, riseB ts = true ↔ ∀ i a b, ts[i]? = some a → ts[i + 1]? = some b → ltK a b = true
  | [] => by simp [riseB]
  | [a] => by simp [riseB]
  | a :: b :: r => by
    have ih := rise_iff (b :: r)
    rw [riseB, Bool.and_eq_true, ih]
    constructor
    · rintro ⟨h1, h2⟩ i x y hx hy
      cases i with
      | zero => simp at hx hy; subst hx hy; exact h1
      | succ i => exact h2 i x y (by simpa using hx) (by simpa using hy)
    · intro h
      exact ⟨h 0 a b rfl rfl, fun i x y hx hy => h (i + 1) x y (by simpa using hx) (by simpa using hy)⟩
theorem rise_pair : ∀ ts : Tags, riseB ts = true → ts.Pairwise fun a b => ltK a b = true
  | [], _ => List.Pairwise.nil
  | [a], _ => by simp
  | a :: b :: r, h => by
    rw [riseB, Bool.and_eq_true] at h
    have ih := rise_pair (b :: r) h.2
    refine List.Pairwise.cons (fun x hx => ?_) ih
    rcases List.mem_cons.1 hx with rfl | hx
    · exact h.1
    · exact swo_key.trans _ _ _ h.1 (List.rel_of_pairwise_cons ih hx)
theorem pair_rise {ts : Tags} (h : ts.Pairwise fun a b => ltK a b = true) : riseB ts = true := by
  rw [rise_iff]
  intro i a b ha hb
  obtain ⟨hi, rfl⟩ := List.getElem?_eq_some_iff.1 ha
  obtain ⟨hj, rfl⟩ := List.getElem?_eq_some_iff.1 hb
  exact List.pairwise_iff_getElem.1 h i (i + 1) hi hj (by omega)

/-- Sorted tags rise just if no key is there twice. -/
theorem rise_sort_iff (ts : Tags) : riseB (sortT ts) = true ↔ (ts.map keyOf).Nodup := by
  rw [← ((sortT_perm ts).map keyOf).nodup_iff]
  constructor
  · intro h
    rw [List.Nodup, List.pairwise_map]
    refine (rise_pair _ h).imp fun {a b} hab => ?_
    simp only [ltK, decide_eq_true_eq] at hab
    intro e
    rw [e] at hab
    exact List.lt_irrefl _ hab
  · intro h
    refine pair_rise ?_
    rw [List.Nodup, List.pairwise_map] at h
    refine (h.and (sortT_spec ts).2).imp fun {a b} hab => ?_
    have h1 := hab.1
    have h2 := hab.2
    simp only [ltK, decide_eq_false_iff_not, List.not_lt] at h2
    simp only [ltK, decide_eq_true_eq]
    exact List.not_le.1 fun h3 => h1 (List.le_antisymm h2 h3)
theorem rise_sort_reverse (ts : Tags) : riseB (sortT ts.reverse) = riseB (sortT ts) := by
  rw [Bool.eq_iff_iff, rise_sort_iff, rise_sort_iff, List.map_reverse]
  exact (List.reverse_perm _).nodup_iff
/-- Of tags that rise there is one order. -/
theorem rise_unique {a b : Tags} (ha : riseB a = true) (hb : riseB b = true) (h : a.Perm b) : a = b := by
  refine List.Perm.eq_of_pairwise (le := fun x y => ltK x y = true) ?_ (rise_pair a ha) (rise_pair b hb) h
  intro x y _ _ h1 h2
  have := swo_key.asymmA h1
  rw [this] at h2
  cases h2
theorem sort_of_rise {a b : Tags} (ha : riseB a = true) (h : a.Perm b) : sortT b = a := by
  have hn : (b.map keyOf).Nodup := by
    rw [← (h.map keyOf).nodup_iff, List.Nodup, List.pairwise_map]
    refine (rise_pair _ ha).imp fun {x y} hxy => ?_
    simp only [ltK, decide_eq_true_eq] at hxy
    intro e
    rw [e] at hxy
    exact List.lt_irrefl _ hxy
  exact (rise_unique ha ((rise_sort_iff b).2 hn) (h.trans (sortT_perm b).symm)).symm
theorem sort_reverse {ts : Tags} (h : riseB (sortT ts) = true) : sortT ts.reverse = sortT ts :=
  sort_of_rise h ((sortT_perm ts).trans (List.reverse_perm ts).symm)
theorem sort_sort {ts : Tags} (h : riseB (sortT ts) = true) : sortT (sortT ts) = sortT ts := sort_of_rise h (List.Perm.refl _)

theorem may_perm {n : ByteArray} {a b : Tags} {k t : Int} (h : a.Perm b) : mayB n a k t = mayB n b k t := by
  unfold mayB
  rw [h.length_eq]
  have : a.all tagOk = b.all tagOk := by
    rw [Bool.eq_iff_iff, List.all_eq_true, List.all_eq_true]
    exact ⟨fun H x hx => H x (h.mem_iff.2 hx), fun H x hx => H x (h.mem_iff.1 hx)⟩
  rw [this]

/-- The number of the error that a key is refused with; none: it is told. -/
def keyErr (n : ByteArray) (ts : Tags) (k t : Int) : Option Int :=
  if mayB n ts k t then (if riseB (sortT ts) then none else some 5) else some 1
theorem keyErr_reverse (n : ByteArray) (ts : Tags) (k t : Int) : keyErr n ts.reverse k t = keyErr n ts k t := by
  unfold keyErr
  rw [may_perm (List.reverse_perm ts), rise_sort_reverse]
theorem keyErr_none {n : ByteArray} {ts : Tags} {k t : Int} (h : keyErr n ts k t = none) : mayB n ts k t = true ∧ riseB (sortT ts) = true := by
  unfold keyErr at h
  split at h
  · rename_i hm
    split at h
    · rename_i hr; exact ⟨hm, hr⟩
    · cases h
  · cases h
/-- The key's text. -/
def keyL (n : ByteArray) (ts : Tags) : List UInt8 := headL n (sortT ts)
theorem keyL_reverse {n : ByteArray} {ts : Tags} (h : riseB (sortT ts) = true) : keyL n ts.reverse = keyL n ts := by
  unfold keyL
  rw [sort_reverse h]

theorem itoa_zero : Lib.itoa 0 = [48] := by decide +kernel
/-- What makes a line of a key. -/
def restL : List UInt8 := [32, 99, 32, 48, 32, 48]
theorem print_rest (n : ByteArray) (ts : Tags) : printL n ts 1 0 0 = headL n ts ++ restL := by
  unfold printL restL
  rw [itoa_zero]
  simp [letter]
theorem may_of {n : ByteArray} {ts : Tags} {k t : Int} (h : mayB n ts k t = true) : mayB n ts 1 0 = true := by
  unfold mayB at h ⊢
  simp only [Bool.and_eq_true] at h ⊢
  exact ⟨h.1, by decide⟩
/-- A key's line parses as what the key is of. -/
theorem parse_key {n : ByteArray} {ts : Tags} {k t : Int} (h : keyErr n ts k t = none) : parseF ⟨(keyL n ts ++ restL).toArray⟩ = .good ⟨n, sortT ts, 1, 0, 0⟩ := by
  obtain ⟨hm, _⟩ := keyErr_none h
  unfold keyL
  rw [← print_rest]
  exact parse_print (by rw [may_perm (sortT_perm ts)]; exact may_of hm) (by omega) (by omega)
/-- The key of what a key is of. -/
theorem keyErr_of {n : ByteArray} {ts : Tags} {k t : Int} (h : keyErr n ts k t = none) : keyErr n (sortT ts) 1 0 = none ∧ keyL n (sortT ts) = keyL n ts := by
  obtain ⟨hm, hr⟩ := keyErr_none h
  have e := sort_sort hr
  constructor
  · unfold keyErr
    rw [may_perm (sortT_perm ts), may_of hm, e, hr]
    rfl
  · unfold keyL
    rw [e]

/-- No space is in a key. -/
theorem word_no {w : ByteArray} (h : wordB w = true) : ∀ c ∈ w.data.toList, c ≠ 32 := by
  unfold wordB at h
  simp only [Bool.and_eq_true, List.all_eq_true] at h
  intro c hc e
  have := h.1.1 c hc
  rw [e] at this
  exact absurd this (by decide)
theorem head_no {n : ByteArray} {ts : Tags} (hn : wordB n = true) (ht : ts.all tagOk = true) : ∀ c ∈ headL n ts, c ≠ 32 := by
  unfold headL
  intro c hc
  rcases List.mem_append.1 hc with hc | hc
  · exact word_no hn c hc
  · obtain ⟨t, htm, hc⟩ := List.mem_flatMap.1 hc
    have ho := List.all_eq_true.1 ht t htm
    unfold tagOk at ho
    simp only [Bool.and_eq_true] at ho
    unfold tagL at hc
    simp only [List.cons_append, List.mem_cons, List.mem_append] at hc
    rcases hc with rfl | hc | rfl | hc
    · decide
    · exact word_no ho.1 c hc
    · decide
    · exact word_no ho.2 c hc
theorem indexByte_at : ∀ (h r : List UInt8) (c : UInt8), (∀ d ∈ h, d ≠ c) → Lib.indexByte (h ++ c :: r) c = (h.length : Int)
  | [], r, c, _ => by simp [Lib.indexByte]
  | b :: h, r, c, hn => by
    have ih := indexByte_at h r c (fun d hd => hn d (by simp [hd]))
    have hb : (b == c) = false := by simpa using hn b (by simp)
    rw [List.cons_append, Lib.indexByte, hb, ih]
    have : ((h.length : Int) == -1) = false := by rw [beq_eq_false_iff_ne]; omega
    rw [this]
    simp
end Go.Proofs.YtfbccngbgkddlaaDoor
