/-
  Layer 5 (series), of no program: tags in the order of their keys; what a key is of.
  Layer 5 (series): the small functions: what holds keys against each other, whether tags rise, and the library's Cut at a space.
  Layer 5 (series): series.copyTags: the tags in a row of their own, their words too.
  Layer 5 (series): the library's SortFunc at tags in a row of their own: they lie in the order of their keys.
  Layer 5 (series): series.Canon: an event with its tags rising, or the errors ErrArg and ErrTwice.
  Layer 5 (series): series.Of: what a key is of, or the error ErrForm.
  Layer 7 (batch): number, whole, overNumber, rowBytes: a row's bytes.
  Layer 7 (batch): which texts are keys, as series.Of tells; which rows and batches may be, of no program.
-/
import Derived.Test.YtgeahpfdaehjaaaGreatDoorGrpH
import Derived.Shelf.SlSortCmp.SmallK
import Derived.Sort.LotA
import Derived.Sort.Walk0
import Derived.Lib.Bytealg
import Derived.Test.YtgeahpfdaehjaaaGreatDoorGrpG
import Derived.Laws.Cover1
import Derived.Deep.RegionHeld3
import Derived.Test.YtgeahpfdaehjaaaGreatDoorGrpA
import Derived.Deep.LoopGhost
namespace Go.Proofs.YtgeahpfdaehjaaaGreatDoor
open Go.RowKit Go.Sort
set_option linter.unusedVariables false

def keyOf (t : ByteArray × ByteArray) : List UInt8 := t.1.data.toList
def cmpKey (a b : ByteArray × ByteArray) : Int := Lib.compareBytes (keyOf a) (keyOf b)
def ltK (a b : ByteArray × ByteArray) : Bool := decide (keyOf a < keyOf b)
theorem cmp_lt : ∀ a b : List UInt8, Lib.compareBytes a b < 0 ↔ a < b
  | [], [] => by simp [Lib.compareBytes]
  | [], _ :: _ => by simp [Lib.compareBytes]
  | _ :: _, [] => by simp [Lib.compareBytes]
  | x :: a, y :: b => by
    have ih := cmp_lt a b
    unfold Lib.compareBytes
    rw [List.cons_lt_cons_iff]
    by_cases h1 : x < y
    · simp [h1]
    · by_cases h2 : y < x
      · have hne : x ≠ y := fun e => by subst e; exact absurd h2 (UInt8.lt_irrefl _)
        simp [h1, h2, hne]
      · have e : x = y := UInt8.le_antisymm (UInt8.not_lt.1 h2) (UInt8.not_lt.1 h1)
        subst e
        simp [h1, ih]
theorem ltOf_key : ltOf cmpKey = ltK := by
  funext a b
  show decide (cmpKey a b < 0) = ltK a b
  exact decide_eq_decide.2 (cmp_lt _ _)
theorem swo_key : SWO ltK where
  irrefl x := by simp [ltK, List.lt_irrefl]
  trans x y z h1 h2 := by simp only [ltK, decide_eq_true_eq] at *; exact List.lt_trans h1 h2
  ntrans x y z h1 h2 := by
    simp only [ltK, decide_eq_false_iff_not, List.not_lt] at *
    exact List.le_trans h2 h1

/-- Tags in the order of their keys, as the library's sort lays them. -/
def sortT (ts : Tags) : Tags := (Sort.insertionSort ltK ts.toArray 0 ts.length).toList
theorem sortT_spec (ts : Tags) : (sortT ts).Perm ts ∧ (sortT ts).Pairwise fun a b => ltK b a = false := by
  have h := insertionSort_holds (lt := ltK) swo_key ts.toArray 0 ts.length (Nat.zero_le _) (by simp)
  obtain ⟨⟨hsz, _, hp⟩, hs⟩ := h
  have hsz' : (Sort.insertionSort ltK ts.toArray 0 ts.length).size = ts.length := by rw [hsz]; simp
  have e1 : (Sort.insertionSort ltK ts.toArray 0 ts.length).extract 0 ts.length = Sort.insertionSort ltK ts.toArray 0 ts.length := by
    have := Array.extract_size (xs := Sort.insertionSort ltK ts.toArray 0 ts.length)
    rwa [hsz'] at this
  have e2 : ts.toArray.extract 0 ts.length = ts.toArray := by
    simp
  rw [e1, e2] at hp
  refine ⟨by simpa [sortT] using hp, ?_⟩
  rw [List.pairwise_iff_getElem]
  intro i j hi hj hij
  have hi' : i < (Sort.insertionSort ltK ts.toArray 0 ts.length).size := by simpa [sortT] using hi
  have hj' : j < (Sort.insertionSort ltK ts.toArray 0 ts.length).size := by simpa [sortT] using hj
  have := hs i j (Nat.zero_le _) hij (by omega)
  rw [getElem!_pos _ j hj', getElem!_pos _ i hi'] at this
  simpa [sortT] using this
theorem sortT_perm (ts : Tags) : (sortT ts).Perm ts := (sortT_spec ts).1
theorem sortT_len (ts : Tags) : (sortT ts).length = ts.length := (sortT_perm ts).length_eq

/-- Whether each key is greater than the one ahead of it. -/
def riseB : Tags → Bool
  | a :: b :: r => ltK a b && riseB (b :: r)
  | _ => true
theorem rise_iff : ∀ ts : Tags, riseB ts = true ↔ ∀ i a b, ts[i]? = some a → ts[i + 1]? = some b → ltK a b = true
  | [] => by simp [riseB]
  | [a] => by simp [riseB]
  | a :: b :: r => by
    have ih := rise_iff (b :: r)
    rw [riseB, Bool.and_eq_true, ih]
    constructor
    · rintro ⟨h1, h2⟩ i x y hx hy
      cases i with
      | zero => simp at hx hy; subst hx hy; exact h1
      | succ i => exact h2 i x y (by simpa using hx) (by simpa using hy)
    · intro h
      exact ⟨h 0 a b rfl rfl, fun i x y hx hy => h (i + 1) x y (by simpa using hx) (by simpa using hy)⟩
theorem rise_pair : ∀ ts : Tags, riseB ts = true → ts.Pairwise fun a b => ltK a b = true
  | [], _ => List.Pairwise.nil
  | [a], _ => by simp
  | a :: b :: r, h => by
    rw [riseB, Bool.and_eq_true] at h
    have ih := rise_pair (b :: r) h.2
    refine List.Pairwise.cons (fun x hx => ?_) ih
    rcases List.mem_cons.1 hx with rfl | hx
    · exact h.1
    · exact swo_key.trans _ _ _ h.1 (List.rel_of_pairwise_cons ih hx)
theorem pair_rise {ts : Tags} (h : ts.Pairwise fun a b => ltK a b = true) : riseB ts = true := by
  rw [rise_iff]
  intro i a b ha hb
  obtain ⟨hi, rfl⟩ := List.getElem?_eq_some_iff.1 ha
  obtain ⟨hj, rfl⟩ := List.getElem?_eq_some_iff.1 hb
  exact List.pairwise_iff_getElem.1 h i (i + 1) hi hj (by omega)

/-- Sorted tags rise just if no key is there twice. -/
theorem rise_sort_iff (ts : Tags) : riseB (sortT ts) = true ↔ (ts.map keyOf).Nodup := by
  rw [← ((sortT_perm ts).map keyOf).nodup_iff]
  constructor
  · intro h
    rw [List.Nodup, List.pairwise_map]
    refine (rise_pair _ h).imp fun {a b} hab => ?_
    simp only [ltK, decide_eq_true_eq] at hab
    intro e
    rw [e] at hab
    exact List.lt_irrefl _ hab
  · intro h
    refine pair_rise ?_
    rw [List.Nodup, List.pairwise_map] at h
    refine (h.and (sortT_spec ts).2).imp fun {a b} hab => ?_
    have h1 := hab.1
    have h2 := hab.2
    simp only [ltK, decide_eq_false_iff_not, List.not_lt] at h2
    simp only [ltK, decide_eq_true_eq]
    exact List.not_le.1 fun h3 => h1 (List.le_antisymm h2 h3)
theorem rise_sort_reverse (ts : Tags) : riseB (sortT ts.reverse) = riseB (sortT ts) := by
  rw [Bool.eq_iff_iff, rise_sort_iff, rise_sort_iff, List.map_reverse]
  exact (List.reverse_perm _).nodup_iff
/-- Of tags that rise there is one order. -/
theorem rise_unique {a b : Tags} (ha : riseB a = true) (hb : riseB b = true) (h : a.Perm b) : a = b := by
  refine List.Perm.eq_of_pairwise (le := fun x y => ltK x y = true) ?_ (rise_pair a ha) (rise_pair b hb) h
  intro x y _ _ h1 h2
  have := swo_key.asymmA h1
  rw [this] at h2
  cases h2
theorem sort_of_rise {a b : Tags} (ha : riseB a = true) (h : a.Perm b) : sortT b = a := by
  have hn : (b.map keyOf).Nodup := by
    rw [← (h.map keyOf).nodup_iff, List.Nodup, List.pairwise_map]
    refine (rise_pair _ ha).imp fun {x y} hxy => ?_
    simp only [ltK, decide_eq_true_eq] at hxy
    intro e
    rw [e] at hxy
    exact List.lt_irrefl _ hxy
  exact (rise_unique ha ((rise_sort_iff b).2 hn) (h.trans (sortT_perm b).symm)).symm
theorem sort_reverse {ts : Tags} (h : riseB (sortT ts) = true) : sortT ts.reverse = sortT ts :=
  sort_of_rise h ((sortT_perm ts).trans (List.reverse_perm ts).symm)
theorem sort_sort {ts : Tags} (h : riseB (sortT ts) = true) : sortT (sortT ts) = sortT ts := sort_of_rise h (List.Perm.refl _)

theorem may_perm {n : ByteArray} {a b : Tags} {k t : Int} (h : a.Perm b) : mayB n a k t = mayB n b k t := by
  unfold mayB
  rw [h.length_eq]
  have : a.all tagOk = b.all tagOk := by
    rw [Bool.eq_iff_iff, List.all_eq_true, List.all_eq_true]
    exact ⟨fun H x hx => H x (h.mem_iff.2 hx), fun H x hx => H x (h.mem_iff.1 hx)⟩
  rw [this]

/-- The number of the error that a key is refused with; none: it is told. -/
def keyErr (n : ByteArray) (ts : Tags) (k t : Int) : Option Int :=
  if mayB n ts k t then (if riseB (sortT ts) then none else some 5) else some 1
theorem keyErr_reverse (n : ByteArray) (ts : Tags) (k t : Int) : keyErr n ts.reverse k t = keyErr n ts k t := by
  unfold keyErr
  rw [may_perm (List.reverse_perm ts), rise_sort_reverse]
theorem keyErr_none {n : ByteArray} {ts : Tags} {k t : Int} (h : keyErr n ts k t = none) : mayB n ts k t = true ∧ riseB (sortT ts) = true := by
  unfold keyErr at h
  split at h
  · rename_i hm
    split at h
    · rename_i hr; exact ⟨hm, hr⟩
    · cases h
  · cases h
/-- The key's text. -/
def keyL (n : ByteArray) (ts : Tags) : List UInt8 := headL n (sortT ts)
theorem keyL_reverse {n : ByteArray} {ts : Tags} (h : riseB (sortT ts) = true) : keyL n ts.reverse = keyL n ts := by
  unfold keyL
  rw [sort_reverse h]

theorem itoa_zero : Lib.itoa 0 = [48] := by decide +kernel
/-- What makes a line of a key. -/
def restL : List UInt8 := [32, 99, 32, 48, 32, 48]
theorem print_rest (n : ByteArray) (ts : Tags) : printL n ts 1 0 0 = headL n ts ++ restL := by
  unfold printL restL
  rw [itoa_zero]
  simp [letter]
theorem may_of {n : ByteArray} {ts : Tags} {k t : Int} (h : mayB n ts k t = true) : mayB n ts 1 0 = true := by
  unfold mayB at h ⊢
  simp only [Bool.and_eq_true] at h ⊢
  exact ⟨h.1, by decide⟩
/-- A key's line parses as what the key is of. -/
theorem parse_key {n : ByteArray} {ts : Tags} {k t : Int} (h : keyErr n ts k t = none) : parseF ⟨(keyL n ts ++ restL).toArray⟩ = .good ⟨n, sortT ts, 1, 0, 0⟩ := by
  obtain ⟨hm, _⟩ := keyErr_none h
  unfold keyL
  rw [← print_rest]
  exact parse_print (by rw [may_perm (sortT_perm ts)]; exact may_of hm) (by omega) (by omega)
/-- The key of what a key is of. -/
theorem keyErr_of {n : ByteArray} {ts : Tags} {k t : Int} (h : keyErr n ts k t = none) : keyErr n (sortT ts) 1 0 = none ∧ keyL n (sortT ts) = keyL n ts := by
  obtain ⟨hm, hr⟩ := keyErr_none h
  have e := sort_sort hr
  constructor
  · unfold keyErr
    rw [may_perm (sortT_perm ts), may_of hm, e, hr]
    rfl
  · unfold keyL
    rw [e]

/-- No space is in a key. -/
theorem word_no {w : ByteArray} (h : wordB w = true) : ∀ c ∈ w.data.toList, c ≠ 32 := by
  unfold wordB at h
  simp only [Bool.and_eq_true, List.all_eq_true] at h
  intro c hc e
  have := h.1.1 c hc
  rw [e] at this
  exact absurd this (by decide)
theorem head_no {n : ByteArray} {ts : Tags} (hn : wordB n = true) (ht : ts.all tagOk = true) : ∀ c ∈ headL n ts, c ≠ 32 := by
  unfold headL
  intro c hc
  rcases List.mem_append.1 hc with hc | hc
  · exact word_no hn c hc
  · obtain ⟨t, htm, hc⟩ := List.mem_flatMap.1 hc
    have ho := List.all_eq_true.1 ht t htm
    unfold tagOk at ho
    simp only [Bool.and_eq_true] at ho
    unfold tagL at hc
    simp only [List.cons_append, List.mem_cons, List.mem_append] at hc
    rcases hc with rfl | hc | rfl | hc
    · decide
    · exact word_no ho.1 c hc
    · decide
    · exact word_no ho.2 c hc
theorem indexByte_at : ∀ (h r : List UInt8) (c : UInt8), (∀ d ∈ h, d ≠ c) → Lib.indexByte (h ++ c :: r) c = (h.length : Int)
  | [], r, c, _ => by simp [Lib.indexByte]
  | b :: h, r, c, hn => by
    have ih := indexByte_at h r c (fun d hd => hn d (by simp [hd]))
    have hb : (b == c) = false := by simpa using hn b (by simp)
    rw [List.cons_append, Lib.indexByte, hb, ih]
    have : ((h.length : Int) == -1) = false := by rw [beq_eq_false_iff_ne]; omega
    rw [this]
    simp
end Go.Proofs.YtgeahpfdaehjaaaGreatDoor
namespace Go.Proofs.YtgeahpfdaehjaaaGreatDoor
open Go.ChangeShapes Go.WideShapes Go.ChangeAt Go.RowKit Go.Sort
set_option linter.unusedVariables false

/-- A tag's two cells. -/
def encTag (t : ByteArray × ByteArray) : List Value := [.string t.1, .string t.2]
/-- Up to a place each key is greater than the one ahead of it. -/
def Rose (ts : Tags) (i : Nat) : Prop := ∀ j a b, j + 1 < i → ts[j]? = some a → ts[j + 1]? = some b → ltK a b = true
theorem geq_key (a b : ByteArray × ByteArray) : Op.bytesLess a.1.toList b.1.toList = ltK a b := by
  rw [bytesLess_eq, Lib.toList_data, Lib.toList_data]
  rfl

set_option maxHeartbeats 1000000 in
theorem seriesRise (A : Option Addr) (c : Nat) (ts : Tags) (w : World) (hr : RdT w A ts) (hl : ts.length ≤ 1000) :
    Calls Tryz.prog 143 #[.slice A ts.length c] w (BB (riseB ts) w) := by
  have HR := Lib.hid hr
  clear hr
  go_enter Tryz.func143, Tryz.ntmps143
  go_wp2
  go_loopg [3] (ts.length) (fun g s3 wx => ∃ (i n : Nat), i + g = ts.length + 1 ∧ 1 ≤ i ∧ s3 = .int .i64 i ∧ Hid (Rose ts i ∧ wx = w.drewN n))
  case atStart => exact ⟨1, 0, by omega, Nat.le_refl _, rfl, Lib.hid ⟨fun j a b h => by omega, rfl⟩⟩
  case round =>
    obtain ⟨i, n, hig, h1, rfl, HW⟩ := hrel
    obtain ⟨hro, hw⟩ := HW.out
    subst hw
    have HO := Lib.hid hro
    clear HW hro
    by_cases hlt : i < ts.length
    · have hltz : (i : Int) < (ts.length : Int) := by omega
      obtain ⟨u, hu⟩ : ∃ u, i = u + 1 := ⟨i - 1, by omega⟩
      obtain ⟨x, hx⟩ : ∃ x, ts[u]? = some x := ⟨_, List.getElem?_eq_getElem (by omega)⟩
      obtain ⟨y, hy⟩ : ∃ y, ts[i]? = some y := ⟨_, List.getElem?_eq_getElem hlt⟩
      have HN : Hid (ltK x y = true → Rose ts (i + 1)) := Lib.hid (fun hl j a b hj ha hb => by
        rcases Nat.lt_or_ge (j + 1) i with h | h
        · exact HO.out j a b h ha hb
        · have : j = u := by omega
          subst this
          rw [hx] at ha
          rw [← hu, hy] at hb
          cases ha; cases hb
          exact hl)
      have HF : Hid (ltK x y = false → riseB ts = false) := Lib.hid (fun hl => by
        rw [Bool.eq_false_iff]
        intro h
        rw [(rise_iff ts).1 h u x y hx (by rw [← hu]; exact hy)] at hl
        cases hl)
      rcases HR.out with h | ⟨b, o, rfl, hc⟩
      · rw [h] at hlt; simp at hlt
      obtain ⟨p0, _⟩ := hc u x.1 x.2 hx
      obtain ⟨q0, _⟩ := hc i y.1 y.2 hy
      have e := geq_key x y
      have hz : IntKind.i64.wrap ((i : Int) - 1) = (u : Int) := by rw [IntKind.wrap_i64]; omega
      have l0 : (u : Int) < (ts.length : Int) := by omega
      have l2 : u < ts.length := by omega
      clear hc hx hy HO hu
      rcases hl : ltK x y with _ | _
      · rw [hl] at e
        have HF := Lib.hid (HF.out hl)
        clear hl HN
        go_wp2
        go_quiet (fail)
        go_wp2
        go_ret
        exact ⟨ret_bool HF.out.symm, below_of_grown (grown_drew (grown_drew (grown_refl _ _) _) _)⟩
      · rw [hl] at e
        have HN := Lib.hid (HN.out hl)
        clear hl HF
        go_wp2
        go_quiet (fail)
        go_wp2
        go_roundg (gk - 1)
        case rel => exact ⟨i + 1, _, by omega, by omega, by go_num, Lib.hid ⟨HN.out, rfl⟩⟩
        case measure => omega
    · have e1 : decide ((i : Int) < (ts.length : Int)) = false := decide_eq_false (by omega)
      have e2 : decide (i < ts.length) = false := decide_eq_false hlt
      have HT : Hid (riseB ts = true) := Lib.hid ((rise_iff ts).2 fun j a b ha hb => HO.out j a b (by have := (List.getElem?_eq_some_iff.1 hb).1; omega) ha hb)
      go_wp2
      go_ret
      exact ⟨ret_bool HT.out.symm, below_of_grown (grown_drew (grown_refl _ _) _)⟩

def Cuts (h : List UInt8) (w : World) (e : Ending) (w' : World) : Prop := ∃ y : ByteArray, e = .returned (.tuple #[.string ⟨h.toArray⟩, .string y, .bool true]) ∧ Below w.heap.size w w'
end Go.Proofs.YtgeahpfdaehjaaaGreatDoor
namespace Go.Proofs.YtgeahpfdaehjaaaGreatDoor
open Go.ChangeShapes Go.WideShapes Go.ChangeAt Go.RowKit
set_option linter.unusedVariables false

theorem OwnT.below {w w' : World} {base : Nat} {A : Option Addr} {cap : Nat} {ts : Tags} (h : OwnT w base A cap ts) (hg : Below w.heap.size w w') : OwnT w' base A cap ts := by
  refine World.ownsRow.kept h (grown_of (r := none) hg) ?_
  cases hv : (Value.slice A ts.length cap).ownBlock with
  | none => exact .inl rfl
  | some g => exact .inr (by simp)
/-- Where the copying of tags stands. -/
structure AtC (w : World) (ts : Tags) (i : Nat) (A : Option Addr) (cap : Nat) (wr : World) : Prop where
  below : Below w.heap.size w wr
  own : OwnT wr w.heap.size A cap (ts.take i)
theorem AtC.on {w : World} {ts : Tags} {i : Nat} {A : Option Addr} {cap : Nat} {wr w' : World} (h : AtC w ts i A cap wr) (b : Below wr.heap.size wr w') : AtC w ts i A cap w' :=
  ⟨h.below.trans (b.mono h.below.size), h.own.below b⟩
theorem below_drewS (w : World) (n : Nat) : Below w.heap.size w (w.drewN n) := below_of_grown (grown_drew (grown_refl _ _) n)
theorem below_drew1 (w : World) : Below w.heap.size w w.drew := ⟨rfl, rfl, rfl, Nat.le_refl _, fun _ _ => rfl⟩
theorem below_new (w : World) (o : Obj) : Below w.heap.size w (w.alloc o) := (Below.refl _ _).alloc (Nat.le_refl _) _
/-- What a region of copyTags keeps. -/
theorem keepS {N : Nat} {x y : ByteArray} {w1 w2 : World}
    (h : w1.cell? ⟨N, 0, none⟩ = some (.string x) ∧ w1.cell? ⟨N, 1, none⟩ = some (.string y)) (b : Below w1.heap.size w1 w2) :
    w2.cell? ⟨N, 0, none⟩ = some (.string x) ∧ w2.cell? ⟨N, 1, none⟩ = some (.string y) :=
  ⟨by rw [b.cell (World.block_lt_of_cell? w1 _ h.1)]; exact h.1, by rw [b.cell (World.block_lt_of_cell? w1 _ h.2)]; exact h.2⟩
theorem cell_grown {w1 w2 : World} {r : Option Nat} (g : w1.grownBy w2 r) {N o : Nat} {v : Value} (h : w1.cell? ⟨N, o, none⟩ = some v) (hr : r ≠ some N) : w2.cell? ⟨N, o, none⟩ = some v := by
  rw [World.cell?_of_block (g.block N (World.block_lt_of_cell? w1 _ h) (fun e => hr e.symm))]
  exact h
theorem keepG {N : Nat} {x y : ByteArray} {w1 w2 : World} {r : Option Nat}
    (h : w1.cell? ⟨N, 0, none⟩ = some (.string x) ∧ w1.cell? ⟨N, 1, none⟩ = some (.string y)) (g : w1.grownBy w2 r) (hr : r ≠ some N) :
    w2.cell? ⟨N, 0, none⟩ = some (.string x) ∧ w2.cell? ⟨N, 1, none⟩ = some (.string y) := ⟨cell_grown g h.1 hr, cell_grown g h.2 hr⟩

theorem append_tag_far {w : World} {base : Nat} {A : Option Addr} {cap : Nat} {ts : Tags} (x y : ByteArray) (h : OwnT w base A cap ts) (hb : base ≤ w.heap.size) (hl : ts.length ≤ 100) :
    ∃ A' cap' w', (Builtin.append_ #[152, 152] 152 #[.slice A ts.length cap, .slice (some ⟨w.heap.size, 0, none⟩) 1 1]).run Tryz.prog (w.alloc (.cells #[.string x, .string y] 198)) = .ok (.slice A' (ts.length + 1) cap') w' ∧
      OwnT w' base A' cap' (ts ++ [(x, y)]) ∧ Below base w w' ∧ (w.alloc (.cells #[.string x, .string y] 198)).grownBy w' (Value.slice A ts.length cap).ownBlock := by
  cases hi : Tryz.prog.info? 198 with
  | none => have := infoT; rw [hi] at this; cases this
  | some i =>
    have hI := infoT
    rw [hi] at hI
    simp only [Option.map_some, Option.some.injEq, Prod.mk.injEq] at hI
    obtain ⟨hz, hz1, hz2⟩ := hI
    obtain ⟨v', w', hrun, hown, hgr, hnil⟩ := run_append_own (P := Tryz.prog) (w.alloc (.cells #[.string x, .string y] 198)) base 152 152 198 i _ 2 32 Tryz.underlying152 hi hz hz1 hz2 rfl (by omega) _ _ _ (h.alloc _) ⟨w.heap.size, 0, none⟩ 1 1 [.string x, .string y] rfl
      (fun j u hu => by
        match j, hu with
        | 0, hu => cases hu; simp [Addr.add]
        | 1, hu => cases hu; simp [Addr.add])
      (fun u hu => by
        simp only [List.mem_cons, List.not_mem_nil, or_false] at hu
        rcases hu with rfl | rfl <;> rfl)
      (by unfold maxLen; omega) (by omega) (by simp; omega)
    have hb0 : Below base w (w.alloc (.cells #[.string x, .string y] 198)) := (Below.refl _ _).alloc hb _
    have hb1 : Below base w w' := hb0.trans ⟨hgr.os, hgr.tape, hgr.output, hgr.size, fun k hk => hgr.block k (by simp; omega) (fun e => by
      have := (World.ownsRow.lt h k e.symm).1
      omega)⟩
    rcases hown.2 with ⟨e, hn0⟩ | ⟨g', cap', cur, rfl, r⟩
    · omega
    · refine ⟨_, _, w', hrun, ?_, hb1, hgr⟩
      unfold OwnT
      rw [List.length_append, tagCells_snoc]
      exact hown

/-- An append of one tag, as a step of a region that draws. -/
theorem step_append_tag {ops : Array Oper} {o : Oper} {a : Act} {w0 : World} {K : Act → World → Prop} {Q : Exit → Act → World → Prop} {E : Prop}
    (hgd : o.guard = none) (s z : Operand) (hop : o.op = Op.call { callee := Callee.builtin Builtin.append, args := #[s, z], argTypes := #[152, 152] }) (hty : o.type = 152)
    {base n : Nat} {A : Option Addr} {cap : Nat} {ts : Tags} {x y : ByteArray} (hs : a.eval s = .slice A n cap) (hn : n = ts.length) (hz : a.eval z = .slice (some ⟨w0.heap.size, 0, none⟩) 1 1)
    (h : OwnT w0 base A cap ts) (hb : base ≤ w0.heap.size) (hl : ts.length ≤ 100)
    (hK : ∀ A' cap' w', OwnT w' base A' cap' (ts ++ [(x, y)]) → Below base w0 w' → (w0.alloc (.cells #[.string x, .string y] 198)).grownBy w' (Value.slice A n cap).ownBlock → K (a.put o.dst (.slice A' (n + 1) cap')) w') :
    if Region.wanted o (yielded ops a.tmps) = true then Oper.wp Tryz.prog o a (w0.alloc (.cells #[.string x, .string y] 198)) K Q else E := by
  subst hn
  obtain ⟨A', cap', w', hrun, ho, hbe, hgr⟩ := append_tag_far x y h hb hl
  have hw : Region.wanted o (yielded ops a.tmps) = true := by simp [Region.wanted, hgd]
  rw [if_pos hw]
  unfold Oper.wp
  rw [← hty] at hrun
  simp [execOp, hop, resolve, invoke, builtin, hs, hz, hty] at hrun ⊢
  simp [hrun, Result.andThen]
  exact hK _ _ _ ho hbe hgr

theorem AtC.append {w : World} {ts : Tags} {i : Nat} {B : Option Addr} {cap : Nat} {w0 : World} (h : AtC w ts i B cap w0) {x y : ByteArray} (hx : ts[i]? = some (x, y)) (hl : ts.length ≤ 6)
    {ops : Array Oper} {o : Oper} {a : Act} {K : Act → World → Prop} {Q : Exit → Act → World → Prop} {E : Prop} (hgd : o.guard = none) (s z : Operand)
    (hop : o.op = Op.call { callee := Callee.builtin Builtin.append, args := #[s, z], argTypes := #[152, 152] }) (hty : o.type = 152)
    (hs : a.eval s = .slice B i cap) (hz : a.eval z = .slice (some ⟨w0.heap.size, 0, none⟩) 1 1)
    (hK : ∀ A' cap' w', Hid (AtC w ts (i + 1) A' cap' w') → (w0.alloc (.cells #[.string x, .string y] 198)).grownBy w' (Value.slice B i cap).ownBlock → K (a.put o.dst (.slice A' (i + 1) cap')) w') :
    if Region.wanted o (yielded ops a.tmps) = true then Oper.wp Tryz.prog o a (w0.alloc (.cells #[.string x, .string y] 198)) K Q else E := by
  obtain ⟨hi, e⟩ := List.getElem?_eq_some_iff.1 hx
  have hlen : i = (ts.take i).length := by rw [List.length_take]; omega
  refine step_append_tag hgd s z hop hty hs hlen hz h.own h.below.size (by omega) fun A' cap' w' ho hb hg => hK A' cap' w' (Lib.hid ⟨h.below.trans hb, ?_⟩) hg
  rw [List.take_succ_eq_append_getElem hi, e]
  exact ho

def CopyPost (w : World) (ts : Tags) (e : Ending) (w' : World) : Prop := ∃ A cap, e = .returned (.slice A ts.length cap) ∧ OwnT w' w.heap.size A cap ts ∧ Below w.heap.size w w'

end Go.Proofs.YtgeahpfdaehjaaaGreatDoor
namespace Go.Proofs.YtgeahpfdaehjaaaGreatDoor
open Go.ChangeShapes Go.WideShapes Go.ChangeAt Go.RowKit Go.Sort Go.Shelf
set_option linter.unusedVariables false

theorem tagsCell_at (ts : Tags) (j : Nat) (hj : j < ts.length * 2) : (tagCells ts)[j]? = some (flatK encTag 2 ts.toArray)[j]! := by
  rw [get_flatK encTag 2 ts.toArray j (by simpa using hj)]
  have hi : j / 2 < ts.length := by omega
  obtain ⟨x, y, h⟩ : ∃ x y, ts[j / 2]? = some (x, y) := ⟨_, _, List.getElem?_eq_getElem hi⟩
  have hxy := (List.getElem?_eq_some_iff.1 h).2
  have e : ts.toArray[j / 2]! = (x, y) := by rw [getElem!_pos ts.toArray (j / 2) (by simpa using hi)]; simpa using hxy
  rw [e]
  obtain ⟨h0, h1⟩ := tagCells_at ts (j / 2) x y h
  rcases (by omega : j % 2 = 0 ∨ j % 2 = 1) with hm | hm
  · rw [hm, show j = j / 2 * 2 by omega]
    exact h0
  · rw [hm, show j = j / 2 * 2 + 1 by omega]
    exact h1
theorem holds_own {w : World} {base g cap : Nat} {ts : Tags} (h : OwnT w base (some ⟨g, 0, none⟩) cap ts) : HoldsK encTag 2 w g 0 ts.toArray ∧ g < w.heap.size := by
  rcases h.2 with ⟨hv, _⟩ | ⟨g', cap', cur, hv, _, hg, _, _, hcs, htake⟩
  · cases hv
  · cases hv
    refine ⟨fun j hj => ?_, lt_of_block hg⟩
    rw [size_flatK] at hj
    have hj' : j < ts.length * 2 := by simpa using hj
    rw [Nat.zero_add]
    refine ⟨?_, frozen_of_block hg⟩
    show w.cell? ⟨g, j, none⟩ = some (flatK encTag 2 ts.toArray)[j]!
    rw [cell_of_block hg, ← tagsCell_at ts j hj', ← htake, List.getElem?_take, if_pos hj']
    simp
theorem rd_holds {w : World} {g : Nat} {ts : Tags} (h : HoldsK encTag 2 w g 0 ts.toArray) : RdT w (some ⟨g, 0, none⟩) ts := by
  refine .inr ⟨g, 0, rfl, fun i x y hi => ?_⟩
  obtain ⟨hl, e⟩ := List.getElem?_eq_some_iff.1 hi
  have e' : ts.toArray[i]! = (x, y) := by rw [getElem!_pos ts.toArray i (by simpa using hl)]; simpa using e
  have c0 := (HoldsK.cell h (i := i) (c := 0) (by simpa using hl) (by omega)).1
  have c1 := (HoldsK.cell h (i := i) (c := 1) (by simpa using hl) (by omega)).1
  rw [e'] at c0 c1
  exact ⟨c0, c1⟩
theorem grown_sorted (w : World) (g n : Nat) (d : Array (ByteArray × ByteArray)) (os : Array Obj) : w.grownBy (sortWorldK encTag 2 w g 0 n d os) (some g) := by
  refine ⟨rfl, rfl, rfl, ?_, fun k hk hr => ?_⟩
  · exact size_sortWorldK_c encTag 2 w g 0 n d os
  · unfold sortWorldK
    rw [heap_grow_old _ _ (by rw [show (putRowK encTag 2 (Go.Sort.ahead w n) g 0 d).heap.size = w.heap.size from size_putRow id _ g 0 _]; exact hk)]
    show ((w.heap.modify g _)[k]? : Option Obj) = _
    rw [Array.getElem?_modify, if_neg (fun e => hr (by rw [e]))]

def SortPost (w : World) (A : Option Addr) (cap : Nat) (ts : Tags) (e : Ending) (w' : World) : Prop :=
  e = .returned (.tuple #[]) ∧ RdT w' A (sortT ts) ∧ w.grownBy w' (Value.slice A ts.length cap).ownBlock
end Go.Proofs.YtgeahpfdaehjaaaGreatDoor
namespace Go.Proofs.YtgeahpfdaehjaaaGreatDoor
open Go.ChangeShapes Go.WideShapes Go.ChangeAt Go.RowKit
set_option linter.unusedVariables false

/-- Where Canon stands: the event in a block of its own, and the result's block. -/
structure Cn (w : World) (n : ByteArray) (A : Option Addr) (l c : Nat) (k v t : Int) (wr : World) : Prop where
  below : Below w.heap.size w wr
  ev : EvB wr w.heap.size n A l c k v t
  res : EvB wr (w.heap.size + 1) ⟨#[]⟩ none 0 0 0 0 0
section
variable {w wr w' : World} {n : ByteArray} {A : Option Addr} {l c : Nat} {k v t : Int}
theorem Cn.size (h : Cn w n A l c k v t wr) : w.heap.size + 1 < wr.heap.size := lt_of_block h.res
theorem Cn.on (h : Cn w n A l c k v t wr) (b : Below wr.heap.size wr w') : Cn w n A l c k v t w' :=
  ⟨h.below.trans (b.mono h.below.size), by unfold EvB; rw [b.block _ (lt_of_block h.ev)]; exact h.ev, by unfold EvB; rw [b.block _ (lt_of_block h.res)]; exact h.res⟩
theorem Cn.grown (h : Cn w n A l c k v t wr) {r : Option Nat} (g : wr.grownBy w' r) (hr : ∀ b, r = some b → w.heap.size + 2 ≤ b) : Cn w n A l c k v t w' := by
  have n0 : some w.heap.size ≠ r := fun e => by have := hr _ e.symm; omega
  have n1 : some (w.heap.size + 1) ≠ r := fun e => by have := hr _ e.symm; omega
  refine ⟨⟨g.os.trans h.below.os, g.tape.trans h.below.tape, g.output.trans h.below.output, Nat.le_trans h.below.size g.size, fun b hb => ?_⟩, ?_, ?_⟩
  · rw [g.block b (by have := h.size; omega) (fun e => by have := hr b e.symm; omega)]
    exact h.below.block b hb
  · unfold EvB; rw [g.block _ (lt_of_block h.ev) n0]; exact h.ev
  · unfold EvB; rw [g.block _ (lt_of_block h.res) n1]; exact h.res
theorem Cn.put0 (h : Cn w n A l c k v t wr) (x : ByteArray) : Cn w x A l c k v t (wr.setCell ⟨w.heap.size, 0, none⟩ (.string x)) :=
  ⟨h.below.setCell (Nat.le_refl _) _, h.ev.set0 x, by unfold EvB; rw [heap_set_other (by show w.heap.size + 1 ≠ w.heap.size; omega)]; exact h.res⟩
theorem Cn.put1 (h : Cn w n A l c k v t wr) (A' : Option Addr) (l' c' : Nat) : Cn w n A' l' c' k v t (wr.setCell ⟨w.heap.size, 1, none⟩ (.slice A' l' c')) :=
  ⟨h.below.setCell (Nat.le_refl _) _, h.ev.set1 A' l' c', by unfold EvB; rw [heap_set_other (by show w.heap.size + 1 ≠ w.heap.size; omega)]; exact h.res⟩
theorem Cn.start (w : World) (n : ByteArray) (A : Option Addr) (l c : Nat) (k v t : Int) :
    Cn w n A l c k v t ((w.alloc (.cells #[.string n, .slice A l c, .int .i64 k, .int .i64 v, .int .i64 t] 154)).alloc (.cells #[.string ⟨#[]⟩, .slice none 0 0, .int .i64 0, .int .i64 0, .int .i64 0] 154)) := by
  refine ⟨((Below.refl _ _).alloc (Nat.le_refl _) _).alloc (by simp) _, ?_, ?_⟩
  · unfold EvB
    rw [(World.grownBy_alloc _ _ none).block w.heap.size (by simp) (by simp)]
    exact heap_alloc_new w _
  · have := heap_alloc_new (w.alloc (.cells #[.string n, .slice A l c, .int .i64 k, .int .i64 v, .int .i64 t] 154)) (.cells #[.string ⟨#[]⟩, .slice none 0 0, .int .i64 0, .int .i64 0, .int .i64 0] 154)
    rw [World.size_alloc] at this
    exact this
end

theorem RdT.set {w : World} {A : Option Addr} {ts : Tags} (h : RdT w A ts) (a : Addr) (x : Value) (hne : ∀ d, A = some d → d.block ≠ a.block) : RdT (w.setCell a x) A ts := by
  rcases h with h | ⟨b, o, e, hc⟩
  · exact .inl h
  · have hb : b ≠ a.block := hne _ e
    refine .inr ⟨b, o, e, fun i x y hi => ⟨?_, ?_⟩⟩
    · exact (World.cell?_of_block (heap_set_other hb)).trans (hc i x y hi).1
    · exact (World.cell?_of_block (heap_set_other hb)).trans (hc i x y hi).2
theorem RdT.set5 {w : World} {A : Option Addr} {ts : Tags} (h : RdT w A ts) {g : Nat} (hne : ∀ d, A = some d → d.block ≠ g) (v0 v1 v2 v3 v4 : Value) :
    RdT (((((w.setCell ⟨g, 0, none⟩ v0).setCell ⟨g, 1, none⟩ v1).setCell ⟨g, 2, none⟩ v2).setCell ⟨g, 3, none⟩ v3).setCell ⟨g, 4, none⟩ v4) A ts :=
  ((((h.set _ _ hne).set _ _ hne).set _ _ hne).set _ _ hne).set _ _ hne

def CanonBad (w : World) (code : Int) (e : Ending) (w' : World) : Prop := e = .returned (.tuple #[evZero, .iface 41 (.int .i64 code)]) ∧ Below w.heap.size w w'
def CanonGood (w : World) (n : ByteArray) (k v t : Int) (ts : Tags) (e : Ending) (w' : World) : Prop :=
  ∃ A c, e = .returned (.tuple #[evVal n A ts.length c k v t, .nilIface]) ∧ RdT w' A ts ∧ Below w.heap.size w w'

def CanonPost (w : World) (n : ByteArray) (k v t : Int) (ts : Tags) (r : Bool) (e : Ending) (w' : World) : Prop :=
  match r with
  | true => CanonGood w n k v t (sortT ts) e w'
  | false => CanonBad w 5 e w'

end Go.Proofs.YtgeahpfdaehjaaaGreatDoor
namespace Go.Proofs.YtgeahpfdaehjaaaGreatDoor
open Go.ChangeShapes Go.WideShapes Go.ChangeAt Go.RowKit
set_option linter.unusedVariables false

def restB : ByteArray := ⟨#[32, 99, 32, 48, 32, 48]⟩
def OfPost (w : World) (n : ByteArray) (ts : Tags) (r : Bool) (e : Ending) (w' : World) : Prop :=
  match r with
  | true => CanonGood w n 0 0 0 ts e w'
  | false => CanonBad w 2 e w'

set_option maxHeartbeats 1000000 in
set_option maxRecDepth 100000 in
theorem seriesOf (s : ByteArray) (ev : Ev) (w : World) (hL : Laid w) (hs : s.size ≤ 294) (hp : parseF (s ++ restB) = .good ev) (h6 : ev.tags.length ≤ 6) (r : Bool) (hri : riseB ev.tags = r) :
    Calls Tryz.prog 121 #[.string s] w (OfPost w ev.name ev.tags r) := by
  have hsz : (s ++ restB).size ≤ 300 := by rw [ByteArray.size_append]; show s.size + 6 ≤ 300; omega
  have e1 : decide ((300 : Int) < s.size) = false := decide_eq_false (by omega)
  have C := Lib.hid (fun w' h => lineParse (s ++ restB) w' h hsz)
  rw [hp] at C
  have HL := Lib.hid (hL.alloc (.cells #[.string ⟨#[]⟩, .slice none 0 0, .int .i64 0, .int .i64 0, .int .i64 0] 154))
  have HRI := Lib.hid hri
  have hE0 : EvB (w.alloc (.cells #[.string ⟨#[]⟩, .slice none 0 0, .int .i64 0, .int .i64 0, .int .i64 0] 154)) w.heap.size ⟨#[]⟩ none 0 0 0 0 0 := heap_alloc_new w _
  have HE0 := Lib.hid hE0
  clear hp hri hE0 hL
  unfold restB at C hsz
  go_enter Tryz.func121, Tryz.ntmps121
  go_wp2_with fail
  refine (C.out _ HL.out).mono ?_
  rintro e w1 ⟨A, c, rfl, o1, hb⟩
  obtain ⟨n, ts, k, v, t⟩ := ev
  simp only at *
  unfold evVal
  have hE1 : EvB (w1.alloc (.cells #[.string n, .slice A ts.length c, .int .i64 k, .int .i64 v, .int .i64 t] 154)) w1.heap.size n A ts.length c k v t := heap_alloc_new w1 _
  have HE1 := Lib.hid hE1
  have HB := Lib.hid (((below_new w _).trans (hb.mono (by simp))).alloc (by have := hb.size; simp at this; omega) (.cells #[.string n, .slice A ts.length c, .int .i64 k, .int .i64 v, .int .i64 t] 154))
  have HR := Lib.hid (o1.rd.alloc (.cells #[.string n, .slice A ts.length c, .int .i64 k, .int .i64 v, .int .i64 t] 154))
  have HE2 := Lib.hid (show EvB (w1.alloc (.cells #[.string n, .slice A ts.length c, .int .i64 k, .int .i64 v, .int .i64 t] 154)) w.heap.size ⟨#[]⟩ none 0 0 0 0 0 by
    have h1 : EvB w1 w.heap.size ⟨#[]⟩ none 0 0 0 0 0 := by unfold EvB; rw [hb.block _ (lt_of_block HE0.out)]; exact HE0.out
    unfold EvB; rw [(World.grownBy_alloc _ _ none).block _ (lt_of_block h1) (by simp)]; exact h1)
  have HO := Lib.hid (o1.alloc (.cells #[.string n, .slice A ts.length c, .int .i64 k, .int .i64 v, .int .i64 t] 154))
  have c1 := hE1.c1
  have CR := Lib.hid (seriesRise A c ts _ HR.out (by omega))
  rw [HRI.out] at CR
  clear hE1 hb o1 HE0 C HL HRI
  cases r with
  | false =>
    go_wp2_with fail
    refine CR.out.mono ?_
    rintro e w2 ⟨rfl, hb⟩
    have E2 := Lib.hid (show EvB w2 w.heap.size ⟨#[]⟩ none 0 0 0 0 0 by unfold EvB; rw [hb.block _ (lt_of_block HE2.out)]; exact HE2.out)
    have B2 := Lib.hid (HB.out.trans (hb.mono HB.out.size))
    clear hb HB HE1 HE2 HR HO CR c1
    have f0 := E2.out.f 0
    have f1 := E2.out.f 1
    have f2 := E2.out.f 2
    have f3 := E2.out.f 3
    have f4 := E2.out.f 4
    have c0 := E2.out.c0
    have c1 := E2.out.c1
    have c2 := E2.out.c2
    have c3 := E2.out.c3
    have c4 := E2.out.c4
    go_wp2_with fail
    refine bodyPost_ret (v := .tuple #[evZero, .iface 41 (.int .i64 2)]) (by simp [results, Tryz.results121, go_sem, evVal, evZero, c0, c1, c2, c3, c4]) rfl ?_
    exact ⟨rfl, below_of_grown (grown_set5 (grown_of B2.out) (Nat.le_refl _) _ _ _ _ _)⟩
  | true =>
    go_wp2_with fail
    refine CR.out.mono ?_
    rintro e w2 ⟨rfl, hb⟩
    have E2 := Lib.hid (show EvB w2 w.heap.size ⟨#[]⟩ none 0 0 0 0 0 by unfold EvB; rw [hb.block _ (lt_of_block HE2.out)]; exact HE2.out)
    have E3 := Lib.hid (show EvB w2 w1.heap.size n A ts.length c k v t by unfold EvB; rw [hb.block _ (lt_of_block HE1.out)]; exact HE1.out)
    have B2 := Lib.hid (HB.out.trans (hb.mono HB.out.size))
    have O2 := Lib.hid (HO.out.below hb)
    clear hb HB HE1 HE2 HR HO CR c1
    have f0 := E2.out.f 0
    have f1 := E2.out.f 1
    have f2 := E2.out.f 2
    have f3 := E2.out.f 3
    have f4 := E2.out.f 4
    have c0 := E2.out.c0
    have c1 := E2.out.c1
    have c2 := E2.out.c2
    have c3 := E2.out.c3
    have c4 := E2.out.c4
    have d0 := E3.out.c0
    have d1 := E3.out.c1
    go_wp2_with fail
    refine bodyPost_ret (v := .tuple #[evVal n A ts.length c 0 0 0, .nilIface]) (by simp [results, Tryz.results121, go_sem, evVal, c0, c1, c2, c3, c4]) rfl ?_
    refine ⟨A, c, rfl, ?_, below_of_grown (grown_set5 (grown_of B2.out) (Nat.le_refl _) _ _ _ _ _)⟩
    exact O2.out.rd.set5 (fun d e => by have := (World.ownsRow.lt O2.out d.block (by rw [e]; rfl)).1; simp at this; omega) _ _ _ _ _
end Go.Proofs.YtgeahpfdaehjaaaGreatDoor
namespace Go.Proofs.YtgeahpfdaehjaaaGreatDoor
open Go.ChangeShapes Go.WideShapes Go.ChangeAt Go.RowKit
set_option linter.unusedVariables false

theorem RowB.keep {w w' : World} {g N : Nat} {r : Rw} {B : Option Addr} {c : Nat} (h : RowB w g r B c) (hb : Below N w w') (hg : g < N) : RowB w' g r B c := ⟨by rw [hb.block _ hg]; exact h.blk⟩
theorem BtB.keep {w w' : World} {g N : Nat} {s t : Int} {A : Option Addr} {n c : Nat} (h : BtB w g s t A n c) (hb : Below N w w') (hg : g < N) : BtB w' g s t A n c := ⟨by rw [hb.block _ hg]; exact h.blk⟩

theorem batchNumber (B : Nat) (v : Value) (l : List UInt8) (n : Nat) (w : World) (ho : OB w B v l) (hB : B ≤ w.heap.size) (hl : l.length ≤ 900000) (hn : n < 18446744073709551616) :
    Calls Tryz.prog 51 #[v, .int .u64 (n : Nat)] w (Bytes B (l ++ enc n) w) := by
  have C := Lib.hid (wireNumber none 0 [] n w (RdS.nil w) (by simp) hn)
  have HO := Lib.hid ho
  have HB := Lib.hid hB
  have hle := enc_length n hn
  clear ho hB
  go_enter Tryz.func51, Tryz.ntmps51
  go_wp2_with fail
  refine C.out.mono ?_
  rintro e w1 ⟨v1, rfl, o1, b1⟩
  rw [List.nil_append] at o1
  obtain ⟨A1, c1, rfl, rd1⟩ := o1.rd
  obtain ⟨v2, w2, r2, o2, g2⟩ := ob_row (HO.out.below b1) rd1 (by omega) (Nat.le_trans HB.out b1.size)
  have R2 := Lib.hid r2
  have O2 := Lib.hid o2
  have B2 := Lib.hid ((b1.mono HB.out).trans g2.below)
  clear r2 o2 g2 o1 rd1 b1 C hle
  go_wp2_with (at_builtin; refine wpList_append_two rfl (.tmp 5) (.tmp 7) 64 64 rfl _ _ _ rfl rfl R2.out ?_)
  go_ret
  exact ⟨_, rfl, O2.out, B2.out⟩
theorem batchWhole (B : Nat) (v : Value) (l : List UInt8) (n : Int) (w : World) (ho : OB w B v l) (hB : B ≤ w.heap.size) (hl : l.length ≤ 900000) (h0 : -9223372036854775808 ≤ n) (h1 : n ≤ 9223372036854775807) :
    Calls Tryz.prog 82 #[v, .int .i64 n] w (Bytes B (l ++ enc (foldN n)) w) := by
  have C := Lib.hid (wireWhole none 0 [] n w (RdS.nil w) (by simp) h0 h1)
  have HO := Lib.hid ho
  have HB := Lib.hid hB
  have hle := enc_length (foldN n) (fold_lt h0 h1)
  clear ho hB
  go_enter Tryz.func82, Tryz.ntmps82
  go_wp2_with fail
  refine C.out.mono ?_
  rintro e w1 ⟨v1, rfl, o1, b1⟩
  rw [List.nil_append] at o1
  obtain ⟨A1, c1, rfl, rd1⟩ := o1.rd
  obtain ⟨v2, w2, r2, o2, g2⟩ := ob_row (HO.out.below b1) rd1 (by omega) (Nat.le_trans HB.out b1.size)
  have R2 := Lib.hid r2
  have O2 := Lib.hid o2
  have B2 := Lib.hid ((b1.mono HB.out).trans g2.below)
  clear r2 o2 g2 o1 rd1 b1 C hle
  go_wp2_with (at_builtin; refine wpList_append_two rfl (.tmp 5) (.tmp 7) 64 64 rfl _ _ _ rfl rfl R2.out ?_)
  go_ret
  exact ⟨_, rfl, O2.out, B2.out⟩
theorem batchOver (b : Bool) (w : World) : Calls Tryz.prog 83 #[.bool b] w (Num6 (overN b) w) := by
  cases b with
  | true =>
    go_enter Tryz.func83, Tryz.ntmps83
    go_wp2
    go_ret
    exact ⟨rfl, rfl⟩
  | false =>
    go_enter Tryz.func83, Tryz.ntmps83
    go_wp2
    go_ret
    exact ⟨rfl, rfl⟩

theorem bksL_len : ∀ l : List Nat, (∀ n ∈ l, n < 18446744073709551616) → (bksL l).length ≤ 10 * l.length
  | [], _ => by simp [bksL]
  | n :: l, h => by
    have h1 := bksL_len l (fun m hm => h m (by simp [hm]))
    have h2 := enc_length n (h n (by simp))
    have e : bksL (n :: l) = enc n ++ bksL l := by simp [bksL]
    rw [e, List.length_append, List.length_cons]
    omega
theorem encT_len (s : ByteArray) (hs : s.size ≤ 5000) : (encT s).length ≤ 10 + s.size := by
  have h1 := enc_length s.size (by omega)
  have : s.data.toList.length = s.size := by simp
  unfold encT
  rw [List.length_append]
  omega
theorem rowHead_len {r : Rw} (hf : FitR r) (hs : r.key.size ≤ 2000) (hk0 : 0 ≤ r.kind) (hk : r.kind ≤ 3) (hl : r.bks.length ≤ 1000) : (rowHead r).length ≤ 80 + r.key.size := by
  have h1 := encT_len r.key (by omega)
  have h2 := enc_length r.kind.toNat (by omega)
  have h3 := enc_length r.many hf.many
  have h4 := enc_length _ (fold_lt hf.sum0 hf.sum1)
  have h5 := enc_length _ (fold_lt hf.least0 hf.least1)
  have h6 := enc_length _ (fold_lt hf.most0 hf.most1)
  have h7 := enc_length (overN r.over) (by have := overN_lt r.over; omega)
  have h8 := enc_length r.bks.length (by omega)
  unfold rowHead
  simp only [List.length_append]
  omega
theorem rowL_len {r : Rw} (hf : FitR r) (hs : r.key.size ≤ 2000) (hk0 : 0 ≤ r.kind) (hk : r.kind ≤ 3) (hl : r.bks.length ≤ 1000) : (rowL r).length ≤ 80 + r.key.size + 10 * r.bks.length := by
  have h1 := rowHead_len hf hs hk0 hk hl
  have h2 := bksL_len r.bks hf.bks
  unfold rowL
  rw [List.length_append]
  omega

/-- Where the writing of a row stands. -/
structure Rb (w : World) (r : Rw) (B : Option Addr) (c : Nat) (L : List UInt8) (v : Value) (wr : World) : Prop where
  own : OB wr (w.heap.size + 1) v L
  row : RowB wr w.heap.size r B c
  below : Below w.heap.size w wr
theorem Rb.size {w wr : World} {r : Rw} {B : Option Addr} {c : Nat} {L : List UInt8} {v : Value} (h : Rb w r B c L v wr) : w.heap.size + 1 ≤ wr.heap.size := h.row.lt
theorem Rb.on {w wr w' : World} {r : Rw} {B : Option Addr} {c : Nat} {L L' : List UInt8} {v v' : Value} (h : Rb w r B c L v wr) (o : OB w' (w.heap.size + 1) v' L') (b : Below (w.heap.size + 1) wr w') : Rb w r B c L' v' w' :=
  ⟨o, h.row.keep b (Nat.lt_succ_self _), h.below.trans (b.mono (Nat.le_succ _))⟩

set_option maxHeartbeats 1000000 in
set_option maxRecDepth 100000 in
theorem batchRowBytes (r : Rw) (B : Option Addr) (c : Nat) (k : Nat) (w : World) (hk : r.kind = (k : Int)) (hk3 : k ≤ 3) (hn : RdN w B c r.bks) (hf : FitR r) (hs : r.key.size ≤ 2000) (hl : r.bks.length ≤ 1000) :
    Calls Tryz.prog 52 #[rowVal r B c] w (Bytes w.heap.size (rowL r) w) := by
  have R0 := Lib.hid (RowB.new w r B c)
  have b0 := Lib.hid ((Below.refl w.heap.size w).alloc (Nat.le_refl _) (rowObj r B c))
  have HN := Lib.hid hn
  have HF := Lib.hid hf
  have hall := rowL_len hf hs (by omega) (by omega) hl
  have hrl : rowL r = rowHead r ++ bksL r.bks := rfl
  have hrh : rowHead r = encT r.key ++ enc k ++ enc r.many ++ enc (foldN r.sum) ++ enc (foldN r.least) ++ enc (foldN r.most) ++ enc (overN r.over) ++ enc r.bks.length := by unfold rowHead; rw [hk, Int.toNat_natCast]
  generalize rowL r = LL at hall hrl ⊢
  have HRL := Lib.hid hrl
  have HRH := Lib.hid hrh
  have s1 := encT_len r.key (by omega)
  have s2 := enc_length k (by omega)
  have s3 := enc_length r.many hf.many
  have s4 := enc_length _ (fold_lt hf.sum0 hf.sum1)
  have s5 := enc_length _ (fold_lt hf.least0 hf.least1)
  have s6 := enc_length _ (fold_lt hf.most0 hf.most1)
  have s7 := enc_length (overN r.over) (by have := overN_lt r.over; omega)
  have s8 := enc_length r.bks.length (by omega)
  have C1 := Lib.hid (fun w' => wireText none 0 [] r.key w' (RdS.nil w') (by simp) hs)
  have HK := Lib.hid hk
  clear hn hf hrl hrh hk
  unfold rowVal
  go_enter Tryz.func52, Tryz.ntmps52
  go_wp2_with fail
  refine (C1.out _).mono ?_
  rintro e w1 ⟨v1, rfl, o1, b1⟩
  rw [List.nil_append] at o1
  have b1 : Below (w.heap.size + 1) (w.alloc (rowObj r B c)) w1 := b1.mono (show w.heap.size + 1 ≤ _ by simp)
  have H1 : Rb w r B c (encT r.key) v1 w1 := ⟨ownsB_mono o1 (by simp), R0.out.keep b1 (Nat.lt_succ_self _), b0.out.trans (b1.mono (Nat.le_succ _))⟩
  generalize hl1 : encT r.key = L1 at H1 s1
  have HL1 := Lib.hid hl1
  have HH1 := Lib.hid H1
  have c1 := H1.row.c1
  rw [HK.out] at c1
  have C2 := Lib.hid (batchNumber _ v1 L1 k w1 H1.own H1.size (by omega) (by omega))
  clear o1 b1 C1 H1 hl1 R0 b0
  go_wp2_with fail
  refine C2.out.mono ?_
  rintro e w2 ⟨v2, rfl, o2, b2⟩
  have H2 := HH1.out.on o2 b2
  generalize hl2 : L1 ++ enc k = L2 at H2
  have z2 : L2.length ≤ 20 + r.key.size := by rw [← hl2, List.length_append]; omega
  have HL2 := Lib.hid hl2
  have HH2 := Lib.hid H2
  have c2 := H2.row.c2
  have C3 := Lib.hid (batchNumber _ v2 L2 r.many w2 H2.own H2.size (by omega) HF.out.many)
  clear o2 b2 C2 H2 hl2 HH1 c1
  go_wp2_with fail
  refine C3.out.mono ?_
  rintro e w3 ⟨v3, rfl, o3, b3⟩
  have H3 := HH2.out.on o3 b3
  generalize hl3 : L2 ++ enc r.many = L3 at H3
  have z3 : L3.length ≤ 30 + r.key.size := by rw [← hl3, List.length_append]; omega
  have HL3 := Lib.hid hl3
  have HH3 := Lib.hid H3
  have c3 := H3.row.c3
  have C4 := Lib.hid (batchWhole _ v3 L3 r.sum w3 H3.own H3.size (by omega) HF.out.sum0 HF.out.sum1)
  clear o3 b3 C3 H3 hl3 HH2 c2
  go_wp2_with fail
  refine C4.out.mono ?_
  rintro e w4 ⟨v4, rfl, o4, b4⟩
  have H4 := HH3.out.on o4 b4
  generalize hl4 : L3 ++ enc (foldN r.sum) = L4 at H4
  have z4 : L4.length ≤ 40 + r.key.size := by rw [← hl4, List.length_append]; omega
  have HL4 := Lib.hid hl4
  have HH4 := Lib.hid H4
  have c4 := H4.row.c4
  have C5 := Lib.hid (batchWhole _ v4 L4 r.least w4 H4.own H4.size (by omega) HF.out.least0 HF.out.least1)
  clear o4 b4 C4 H4 hl4 HH3 c3
  go_wp2_with fail
  refine C5.out.mono ?_
  rintro e w5 ⟨v5, rfl, o5, b5⟩
  have H5 := HH4.out.on o5 b5
  generalize hl5 : L4 ++ enc (foldN r.least) = L5 at H5
  have z5 : L5.length ≤ 50 + r.key.size := by rw [← hl5, List.length_append]; omega
  have HL5 := Lib.hid hl5
  have HH5 := Lib.hid H5
  have c5 := H5.row.c5
  have C6 := Lib.hid (batchWhole _ v5 L5 r.most w5 H5.own H5.size (by omega) HF.out.most0 HF.out.most1)
  clear o5 b5 C5 H5 hl5 HH4 c4
  go_wp2_with fail
  refine C6.out.mono ?_
  rintro e w6 ⟨v6, rfl, o6, b6⟩
  have H6 := HH5.out.on o6 b6
  generalize hl6 : L5 ++ enc (foldN r.most) = L6 at H6
  have z6 : L6.length ≤ 60 + r.key.size := by rw [← hl6, List.length_append]; omega
  have HL6 := Lib.hid hl6
  have HH6 := Lib.hid H6
  have c6 := H6.row.c6
  have CO := Lib.hid (fun w' => batchOver r.over w')
  have C7 := Lib.hid (batchNumber _ v6 L6 (overN r.over) w6 H6.own H6.size (by omega) (by have := overN_lt r.over; omega))
  clear o6 b6 C6 H6 hl6 HH5 c5
  go_wp2_with fail
  refine (CO.out _).mono ?_
  rintro e w' ⟨rfl, rfl⟩
  go_wp2_with fail
  refine C7.out.mono ?_
  rintro e w7 ⟨v7, rfl, o7, b7⟩
  have H7 := HH6.out.on o7 b7
  generalize hl7 : L6 ++ enc (overN r.over) = L7 at H7
  have z7 : L7.length ≤ 70 + r.key.size := by rw [← hl7, List.length_append]; omega
  have HL7 := Lib.hid hl7
  have HH7 := Lib.hid H7
  have c7 := H7.row.c7
  have C8 := Lib.hid (batchNumber _ v7 L7 r.bks.length w7 H7.own H7.size (by omega) (by omega))
  clear o7 b7 C7 H7 hl7 HH6 c6 CO
  go_wp2_with fail
  refine C8.out.mono ?_
  rintro e w8 ⟨v8, rfl, o8, b8⟩
  have H8 := HH7.out.on o8 b8
  generalize hl8 : L7 ++ enc r.bks.length = L8 at H8
  have HA : Hid (LL = L8 ++ bksL r.bks) := Lib.hid (by rw [HRL.out, HRH.out, HL1.out, HL2.out, HL3.out, HL4.out, HL5.out, HL6.out, HL7.out, hl8])
  have HH8 := Lib.hid H8
  have c7' := H8.row.c7
  clear o8 b8 C8 H8 hl8 HH7 c7 HL1 HL2 HL3 HL4 HL5 HL6 HL7 HRL HRH s1 s2 s3 s4 s5 s6 s7 s8 z2 z3 z4 z5 z6 z7
  go_wp2_with fail
  go_loopg [3, 44] (r.bks.length) (fun g s3 s44 wx => ∃ (i : Nat) (acc : List UInt8), i + g = r.bks.length ∧ s44 = .int .i64 i ∧ Hid (Rb w r B c acc s3 wx ∧ LL = acc ++ bksL (r.bks.drop i)))
  case atStart => exact ⟨0, L8, by omega, rfl, Lib.hid ⟨HH8.out, HA.out⟩⟩
  case round =>
    clear HH8 HA c7'
    obtain ⟨i, acc, hig, rfl, HG⟩ := hrel
    cases gk with
    | zero =>
      have e1 : decide ((i : Int) < (r.bks.length : Int)) = false := decide_eq_false (by omega)
      have e2 : decide (i < r.bks.length) = false := decide_eq_false (by omega)
      have HE : Hid (LL = acc) := Lib.hid (by rw [HG.out.2, List.drop_eq_nil_of_le (by omega)]; simp [bksL])
      go_wp2_with fail
      go_ret
      exact ⟨_, rfl, by rw [HE.out]; exact ownsB_mono HG.out.1.own (Nat.le_succ _), HG.out.1.below⟩
    | succ g =>
      have hlt : i < r.bks.length := by omega
      have hltz : (i : Int) < (r.bks.length : Int) := by omega
      have hN := HN.out.below HG.out.1.below (Nat.le_refl _)
      obtain ⟨ad, rfl⟩ := hN.some_of (by omega)
      obtain ⟨n, hni⟩ : ∃ n, r.bks[i]? = some n := ⟨_, List.getElem?_eq_getElem hlt⟩
      have hc := hN.rd ad rfl i n hni
      have hnlt := HF.out.bks n (List.mem_of_getElem? hni)
      have HX : Hid (LL = (acc ++ enc n) ++ bksL (r.bks.drop (i + 1))) := Lib.hid (by
        obtain ⟨h1, h2⟩ := List.getElem?_eq_some_iff.1 hni
        rw [HG.out.2, List.drop_eq_getElem_cons h1, h2]
        simp [bksL])
      have hac : acc.length ≤ 20000 := by have := congrArg List.length HG.out.2; rw [List.length_append] at this; omega
      have C9 := Lib.hid (batchNumber _ _ acc n wr HG.out.1.own HG.out.1.size (by omega) hnlt)
      clear hN hni hnlt
      go_wp2_with fail
      refine C9.out.mono ?_
      rintro e w9 ⟨v9, rfl, o9, b9⟩
      have H9 := Lib.hid (HG.out.1.on o9 b9)
      clear o9 b9 C9
      go_wp2_with fail
      go_roundg g
      case rel => exact ⟨i + 1, acc ++ enc n, by omega, by go_num, Lib.hid ⟨H9.out, HX.out⟩⟩
      case measure => omega
end Go.Proofs.YtgeahpfdaehjaaaGreatDoor
namespace Go.Proofs.YtgeahpfdaehjaaaGreatDoor
open Go.ChangeShapes Go.WideShapes Go.ChangeAt Go.RowKit
set_option linter.unusedVariables false

def keyOk (s : ByteArray) : Bool := decide (s.size ≤ 294) && (match parseF (s ++ restB) with | .good ev => riseB ev.tags | .bad _ => false)
def OfGood (w : World) (e : Ending) (w' : World) : Prop := ∃ n A l c, e = .returned (.tuple #[evVal n A l c 0 0 0, .nilIface]) ∧ Below w.heap.size w w'
def OfBad (w : World) (e : Ending) (w' : World) : Prop := e = .returned (.tuple #[evZero, .iface 41 (.int .i64 2)]) ∧ Below w.heap.size w w'
theorem parse_len {s : ByteArray} {ev : Ev} (h : parseF s = .good ev) : ev.tags.length ≤ 6 := by
  have hm := (print_parse h).1
  unfold mayB at hm
  simp only [Bool.and_eq_true, decide_eq_true_eq] at hm
  exact hm.1.1.2
theorem seriesOfGood (s : ByteArray) (w : World) (hL : Laid w) (h : keyOk s = true) : Calls Tryz.prog 121 #[.string s] w (OfGood w) := by
  unfold keyOk at h
  rw [Bool.and_eq_true, decide_eq_true_eq] at h
  obtain ⟨h1, h2⟩ := h
  cases hp : parseF (s ++ restB) with
  | bad p => rw [hp] at h2; cases h2
  | good ev =>
    rw [hp] at h2
    refine (seriesOf s ev w hL h1 hp (parse_len hp) true h2).mono ?_
    rintro e w' ⟨A, c, rfl, _, hb⟩
    exact ⟨_, _, _, _, rfl, hb⟩
theorem ofLarge (s : ByteArray) (w : World) (hs : 300 < s.size) (hm : s.size ≤ 9223372036854775807) : Calls Tryz.prog 121 #[.string s] w (OfBad w) := by
  have e1 : decide ((300 : Int) < s.size) = true := decide_eq_true (by omega)
  go_enter Tryz.func121, Tryz.ntmps121
  go_wp2_with fail
  refine bodyPost_ret (v := .tuple #[evZero, .iface 41 (.int .i64 2)]) (by simp [results, Tryz.results121, go_sem, evVal, evZero]) rfl ?_
  exact ⟨rfl, (Below.refl _ _).alloc (Nat.le_refl _) _⟩
set_option maxHeartbeats 400000 in
set_option maxRecDepth 100000 in
theorem ofLonger (s : ByteArray) (w : World) (hs : s.size ≤ 300) (hm : 294 < s.size) : Calls Tryz.prog 121 #[.string s] w (OfBad w) := by
  have e1 : decide ((300 : Int) < s.size) = false := decide_eq_false (by omega)
  have hsz : 300 < (s ++ restB).size ∧ (s ++ restB).size ≤ 9223372036854775807 := by rw [ByteArray.size_append]; exact ⟨by show 300 < s.size + 6; omega, by show s.size + 6 ≤ _; omega⟩
  have C := Lib.hid (fun w' => parseLarge (s ++ restB) w' hsz.1 hsz.2)
  clear hsz
  unfold restB at C
  have HE0 := Lib.hid (heap_alloc_new w (.cells #[.string ⟨#[]⟩, .slice none 0 0, .int .i64 0, .int .i64 0, .int .i64 0] 154))
  go_enter Tryz.func121, Tryz.ntmps121
  go_wp2_with fail
  refine (C.out _).mono ?_
  rintro e w1 ⟨rfl, hb⟩
  have E1 : EvB w1 w.heap.size ⟨#[]⟩ none 0 0 0 0 0 := by unfold EvB; rw [hb.block _ (by simp)]; exact HE0.out
  have B1 := Lib.hid ((below_new w _).trans (hb.mono (by simp)))
  have HE1 := Lib.hid E1
  have hz1 := lt_of_block E1
  unfold evZero evVal
  clear hb E1 C HE0
  have E2 := HE1.out
  have c0 := E2.c0
  have c1 := E2.c1
  have c2 := E2.c2
  have c3 := E2.c3
  have c4 := E2.c4
  have f0 := E2.f 0
  have f1 := E2.f 1
  have f2 := E2.f 2
  have f3 := E2.f 3
  have f4 := E2.f 4
  clear E2
  go_wp2_with fail
  refine bodyPost_ret (v := .tuple #[evZero, .iface 41 (.int .i64 2)]) (by simp [results, Tryz.results121, go_sem, evVal, evZero, c0, c1, c2, c3, c4, hz1]) rfl ?_
  exact ⟨rfl, below_of_grown (grown_alloc (grown_set5 (grown_of B1.out) (Nat.le_refl _) _ _ _ _ _) _)⟩
set_option maxHeartbeats 400000 in
set_option maxRecDepth 100000 in
theorem ofParse (s : ByteArray) (p : Nat) (w : World) (hL : Laid w) (hs : s.size ≤ 294) (hp : parseF (s ++ restB) = .bad p) : Calls Tryz.prog 121 #[.string s] w (OfBad w) := by
  have e1 : decide ((300 : Int) < s.size) = false := decide_eq_false (by omega)
  have hsz : (s ++ restB).size ≤ 300 := by rw [ByteArray.size_append]; show s.size + 6 ≤ 300; omega
  have C := Lib.hid (fun w' h => lineParse (s ++ restB) w' h hsz)
  rw [hp] at C
  have HL := Lib.hid (hL.alloc (.cells #[.string ⟨#[]⟩, .slice none 0 0, .int .i64 0, .int .i64 0, .int .i64 0] 154))
  clear hsz hp hL
  unfold restB at C
  have HE0 := Lib.hid (heap_alloc_new w (.cells #[.string ⟨#[]⟩, .slice none 0 0, .int .i64 0, .int .i64 0, .int .i64 0] 154))
  go_enter Tryz.func121, Tryz.ntmps121
  go_wp2_with fail
  refine (C.out _ HL.out).mono ?_
  rintro e w1 ⟨N, rfl, _, hb⟩
  have E1 : EvB w1 w.heap.size ⟨#[]⟩ none 0 0 0 0 0 := by unfold EvB; rw [hb.block _ (by simp)]; exact HE0.out
  have B1 := Lib.hid ((below_new w _).trans (hb.mono (by simp)))
  have HE1 := Lib.hid E1
  have hz1 := lt_of_block E1
  unfold evZero evVal
  clear hb E1 C HE0 HL
  have E2 := HE1.out
  have c0 := E2.c0
  have c1 := E2.c1
  have c2 := E2.c2
  have c3 := E2.c3
  have c4 := E2.c4
  have f0 := E2.f 0
  have f1 := E2.f 1
  have f2 := E2.f 2
  have f3 := E2.f 3
  have f4 := E2.f 4
  clear E2
  go_wp2_with fail
  refine bodyPost_ret (v := .tuple #[evZero, .iface 41 (.int .i64 2)]) (by simp [results, Tryz.results121, go_sem, evVal, evZero, c0, c1, c2, c3, c4, hz1]) rfl ?_
  exact ⟨rfl, below_of_grown (grown_alloc (grown_set5 (grown_of B1.out) (Nat.le_refl _) _ _ _ _ _) _)⟩
theorem seriesOfBad (s : ByteArray) (w : World) (hL : Laid w) (hm : s.size ≤ 9223372036854775807) (h : keyOk s = false) : Calls Tryz.prog 121 #[.string s] w (OfBad w) := by
  rcases Nat.lt_or_ge 300 s.size with h1 | h1
  · exact ofLarge s w h1 hm
  rcases Nat.lt_or_ge 294 s.size with h2 | h2
  · exact ofLonger s w h1 h2
  unfold keyOk at h
  rw [show decide (s.size ≤ 294) = true from decide_eq_true h2, Bool.true_and] at h
  cases hp : parseF (s ++ restB) with
  | bad p => exact ofParse s p w hL h2 hp
  | good ev =>
    rw [hp] at h
    exact seriesOf s ev w hL h2 hp (parse_len hp) false h
theorem key_size {s : ByteArray} (h : keyOk s = true) : s.size ≤ 294 := by
  unfold keyOk at h
  rw [Bool.and_eq_true, decide_eq_true_eq] at h
  exact h.1

def bkOk (r : Rw) : Bool := if r.kind = 3 then decide (1 ≤ r.bks.length) && decide (r.bks.length ≤ 65) && (r.bks[r.bks.length - 1]?.getD 0 != 0) else r.bks.length == 0
def rowOk (r : Rw) : Bool := decide (1 ≤ r.kind) && decide (r.kind ≤ 3) && decide (1 ≤ r.many) && decide (r.least ≤ r.most) && bkOk r && keyOk r.key
def riseR (a b : Rw) : Bool := if a.key = b.key then decide (a.kind < b.kind) else decide (a.key.data.toList < b.key.data.toList)
def stepOk (rows : List Rw) (i : Nat) : Bool :=
  match rows[i]? with
  | none => true
  | some r => rowOk r && (match i with | 0 => true | j + 1 => (match rows[j]? with | none => true | some a => riseR a r))
def rowsOk (rows : List Rw) : Bool := decide (rows.length ≤ 200) && (List.range rows.length).all (stepOk rows)
def mayOk (b : Bt) : Bool := decide (0 ≤ b.seq) && decide (b.seq ≤ 2147483647) && decide (0 ≤ b.start) && decide (b.start ≤ 1099511627776) && rowsOk b.rows
theorem rowsOk_true {rows : List Rw} (hl : rows.length ≤ 200) (h : ∀ j, j < rows.length → stepOk rows j = true) : rowsOk rows = true := by
  unfold rowsOk
  rw [decide_eq_true hl, Bool.true_and, List.all_eq_true]
  exact fun j hj => h j (List.mem_range.1 hj)
theorem rowsOk_false {rows : List Rw} {j : Nat} (hj : j < rows.length) (h : stepOk rows j = false) : rowsOk rows = false := by
  unfold rowsOk
  rw [Bool.and_eq_false_iff]
  refine .inr ?_
  rw [List.all_eq_false]
  exact ⟨j, List.mem_range.2 hj, by rw [h]; simp⟩
theorem rowsOk_many {rows : List Rw} (hl : ¬ rows.length ≤ 200) : rowsOk rows = false := by
  unfold rowsOk
  rw [decide_eq_false hl, Bool.false_and]
theorem step_row {rows : List Rw} {i : Nat} {r : Rw} (hi : rows[i]? = some r) (h : rowOk r = false) : stepOk rows i = false := by
  unfold stepOk
  rw [hi]
  simp only [h, Bool.false_and]
theorem step_first {rows : List Rw} {r : Rw} (hi : rows[0]? = some r) (h : rowOk r = true) : stepOk rows 0 = true := by
  unfold stepOk
  rw [hi]
  simp only [h, Bool.true_and]
theorem step_next {rows : List Rw} {j : Nat} {a r : Rw} (hj : rows[j]? = some a) (hi : rows[j + 1]? = some r) (h : rowOk r = true) : stepOk rows (j + 1) = riseR a r := by
  unfold stepOk
  rw [hi]
  simp only [h, Bool.true_and, hj]
theorem rowsOk_row {rows : List Rw} (h : rowsOk rows = true) : rows.length ≤ 200 ∧ ∀ r ∈ rows, rowOk r = true := by
  unfold rowsOk at h
  rw [Bool.and_eq_true, decide_eq_true_eq, List.all_eq_true] at h
  refine ⟨h.1, fun r hr => ?_⟩
  obtain ⟨i, hi, rfl⟩ := List.mem_iff_getElem.1 hr
  have := h.2 i (List.mem_range.2 hi)
  unfold stepOk at this
  rw [List.getElem?_eq_getElem hi] at this
  simp only [Bool.and_eq_true] at this
  exact this.1
theorem rowOk_parts {r : Rw} (h : rowOk r = true) : 1 ≤ r.kind ∧ r.kind ≤ 3 ∧ 1 ≤ r.many ∧ r.least ≤ r.most ∧ bkOk r = true ∧ keyOk r.key = true := by
  unfold rowOk at h
  simp only [Bool.and_eq_true, decide_eq_true_eq] at h
  exact ⟨h.1.1.1.1.1, h.1.1.1.1.2, h.1.1.1.2, h.1.1.2, h.1.2, h.2⟩
theorem bkOk_len {r : Rw} (h : bkOk r = true) : r.bks.length ≤ 65 := by
  unfold bkOk at h
  split at h
  · simp only [Bool.and_eq_true, decide_eq_true_eq] at h; exact h.1.2
  · rw [beq_iff_eq] at h; omega
theorem rowOk_in {r : Rw} (hf : FitR r) (h : rowOk r = true) : InR r := by
  obtain ⟨h1, h2, _, _, h5, h6⟩ := rowOk_parts h
  have := key_size h6
  exact ⟨hf, by omega, by omega, h2, bkOk_len h5⟩
theorem mayOk_parts {b : Bt} (h : mayOk b = true) : 0 ≤ b.seq ∧ b.seq ≤ 2147483647 ∧ 0 ≤ b.start ∧ b.start ≤ 1099511627776 ∧ rowsOk b.rows = true := by
  unfold mayOk at h
  simp only [Bool.and_eq_true, decide_eq_true_eq] at h
  exact ⟨h.1.1.1.1, h.1.1.1.2, h.1.1.2, h.1.2, h.2⟩
theorem mayOk_in {b : Bt} (hf : ∀ r ∈ b.rows, FitR r) (h : mayOk b = true) : InB b := by
  obtain ⟨h1, h2, h3, h4, h5⟩ := mayOk_parts h
  obtain ⟨h6, h7⟩ := rowsOk_row h5
  exact ⟨h1, h2, h3, h4, h6, fun r hr => rowOk_in (hf r hr) (h7 r hr)⟩
/-- What bytes are those of, if of any. -/
def getF (l : List UInt8) : Option Bt := if (gBatch l).2.bey = false ∧ rsEnd l (gBatch l).2.r = none ∧ mayOk (gBatch l).1 = true then some (gBatch l).1 else none
theorem getF_put {b : Bt} (hf : ∀ r ∈ b.rows, FitR r) (h : mayOk b = true) : getF (putL b) = some b := by
  obtain ⟨g, e, h1, h2⟩ := get_put (mayOk_in hf h)
  unfold getF
  rw [e, if_pos ⟨h1, h2, h⟩]
theorem getF_some {l : List UInt8} {b : Bt} (h : getF l = some b) : mayOk b = true ∧ putL b = l ∧ (∀ r ∈ b.rows, FitR r) ∧ (gBatch l).2.bey = false ∧ rsEnd l (gBatch l).2.r = none ∧ (gBatch l).1 = b := by
  unfold getF at h
  split at h
  · rename_i hc
    cases h
    exact ⟨hc.2.2, put_get hc.1 hc.2.1, (batch_fit l).1, hc.1, hc.2.1, rfl⟩
  · cases h
end Go.Proofs.YtgeahpfdaehjaaaGreatDoor
