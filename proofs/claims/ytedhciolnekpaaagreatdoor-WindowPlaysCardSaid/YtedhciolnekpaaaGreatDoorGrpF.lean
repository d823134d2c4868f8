/-
  Layer 5 (series), of no program: tags in the order of their keys; what a key is of.
  Layer 5 (series): the small functions: what holds keys against each other, whether tags rise, and the library's Cut at a space.
  Layer 5 (series): series.copyTags: the tags in a row of their own, their words too.
  Layer 5 (series): the library's SortFunc at tags in a row of their own: they lie in the order of their keys.
-/
import Derived.Test.YtedhciolnekpaaaGreatDoorGrpE
import Derived.Shelf.SlSortCmp.SmallK
import Derived.Sort.LotA
import Derived.Sort.Walk0
import Derived.Lib.Bytealg
import Derived.Test.YtedhciolnekpaaaGreatDoorGrpD
import Derived.Laws.Cover1
import Derived.Deep.RegionHeld3
namespace Go.Proofs.YtedhciolnekpaaaGreatDoor
open Go.RowKit Go.Sort
set_option linter.unusedVariables false

def keyOf (t : ByteArray × ByteArray) : List UInt8 := t.1.data.toList
def cmpKey (a b : ByteArray × ByteArray) : Int := Lib.compareBytes (keyOf a) (keyOf b)
def ltK (a b : ByteArray × ByteArray) : Bool := decide (keyOf a < keyOf b)
theorem cmp_lt : ∀ a b : List UInt8, Lib.compareBytes a b < 0 ↔ a < b
  | [], [] => by simp [Lib.compareBytes]
  | [], _ :: _ => by simp [Lib.compareBytes]
  | _ :: _, [] => by simp [Lib.compareBytes]
  | x :: a, y :: b => by
    have ih := cmp_lt a b
    unfold Lib.compareBytes
    rw [List.cons_lt_cons_iff]
    by_cases h1 : x < y
    · simp [h1]
    · by_cases h2 : y < x
      · have hne : x ≠ y := fun e => by subst e; exact absurd h2 (UInt8.lt_irrefl _)
        simp [h1, h2, hne]
      · have e : x = y := UInt8.le_antisymm (UInt8.not_lt.1 h2) (UInt8.not_lt.1 h1)
        subst e
        simp [h1, ih]
theorem ltOf_key : ltOf cmpKey = ltK := by
  funext a b
  show decide (cmpKey a b < 0) = ltK a b
  exact decide_eq_decide.2 (cmp_lt _ _)
theorem swo_key : SWO ltK where
  irrefl x := by simp [ltK, List.lt_irrefl]
  trans x y z h1 h2 := by simp only [ltK, decide_eq_true_eq] at *; exact List.lt_trans h1 h2
  ntrans x y z h1 h2 := by
    simp only [ltK, decide_eq_false_iff_not, List.not_lt] at *
    exact List.le_trans h2 h1

/-- Tags in the order of their keys, as the library's sort lays them. -/
def sortT (ts : Tags) : Tags := (Sort.insertionSort ltK ts.toArray 0 ts.length).toList
theorem sortT_spec (ts : Tags) : (sortT ts).Perm ts ∧ (sortT ts).Pairwise fun a b => ltK b a = false := by
  have h := insertionSort_holds (lt := ltK) swo_key ts.toArray 0 ts.length (Nat.zero_le _) (by simp)
  obtain ⟨⟨hsz, _, hp⟩, hs⟩ := h
  have hsz' : (Sort.insertionSort ltK ts.toArray 0 ts.length).size = ts.length := by rw [hsz]; simp
  have e1 : (Sort.insertionSort ltK ts.toArray 0 ts.length).extract 0 ts.length = Sort.insertionSort ltK ts.toArray 0 ts.length := by
    have := Array.extract_size (xs := Sort.insertionSort ltK ts.toArray 0 ts.length)
    rwa [hsz'] at this
  have e2 : ts.toArray.extract 0 ts.length = ts.toArray := by
    simp
  rw [e1, e2] at hp
  refine ⟨by simpa [sortT] using hp, ?_⟩
  rw [List.pairwise_iff_getElem]
  intro i j hi hj hij
  have hi' : i < (Sort.insertionSort ltK ts.toArray 0 ts.length).size := by simpa [sortT] using hi
  have hj' : j < (Sort.insertionSort ltK ts.toArray 0 ts.length).size := by simpa [sortT] using hj
  have := hs i j (Nat.zero_le _) hij (by omega)
  rw [getElem!_pos _ j hj', getElem!_pos _ i hi'] at this
  simpa [sortT] using this
theorem sortT_perm (ts : Tags) : (sortT ts).Perm ts := (sortT_spec ts).1
theorem sortT_len (ts : Tags) : (sortT ts).length = ts.length := (sortT_perm ts).length_eq

/-- Whether each key is greater than the one ahead of it. -/
def riseB : Tags → Bool
  | a :: b :: r => ltK a b && riseB (b :: r)
  | _ => true
theorem rise_iff : ∀ ts : Tags, riseB ts = true ↔ ∀ i a b, ts[i]? = some a → ts[i + 1]? = some b → ltK a b = true
  | [] => by simp [riseB]
  | [a] => by simp [riseB]
  | a :: b :: r => by
    have ih := rise_iff (b :: r)
    rw [riseB, Bool.and_eq_true, ih]
    constructor
    · rintro ⟨h1, h2⟩ i x y hx hy
      cases i with
      | zero => simp at hx hy; subst hx hy; exact h1
      | succ i => exact h2 i x y (by simpa using hx) (by simpa using hy)
    · intro h
      exact ⟨h 0 a b rfl rfl, fun i x y hx hy => h (i + 1) x y (by simpa using hx) (by simpa using hy)⟩
theorem rise_pair : ∀ ts : Tags, riseB ts = true → ts.Pairwise fun a b => ltK a b = true
  | [], _ => List.Pairwise.nil
  | [a], _ => by simp
  | a :: b :: r, h => by
    rw [riseB, Bool.and_eq_true] at h
    have ih := rise_pair (b :: r) h.2
    refine List.Pairwise.cons (fun x hx => ?_) ih
    rcases List.mem_cons.1 hx with rfl | hx
    · exact h.1
    · exact swo_key.trans _ _ _ h.1 (List.rel_of_pairwise_cons ih hx)
theorem pair_rise {ts : Tags} (h : ts.Pairwise fun a b => ltK a b = true) : riseB ts = true := by
  rw [rise_iff]
  intro i a b ha hb
  obtain ⟨hi, rfl⟩ := List.getElem?_eq_some_iff.1 ha
  obtain ⟨hj, rfl⟩ := List.getElem?_eq_some_iff.1 hb
  exact List.pairwise_iff_getElem.1 h i (i + 1) hi hj (by omega)

/-- Sorted tags rise just if no key is there twice. -/
theorem rise_sort_iff (ts : Tags) : riseB (sortT ts) = true ↔ (ts.map keyOf).Nodup := by
  rw [← ((sortT_perm ts).map keyOf).nodup_iff]
  constructor
  · intro h
    rw [List.Nodup, List.pairwise_map]
    refine (rise_pair _ h).imp fun {a b} hab => ?_
    simp only [ltK, decide_eq_true_eq] at hab
    intro e
    rw [e] at hab
    exact List.lt_irrefl _ hab
  · intro h
    refine pair_rise ?_
    rw [List.Nodup, List.pairwise_map] at h
    refine (h.and (sortT_spec ts).2).imp fun {a b} hab => ?_
    have h1 := hab.1
    have h2 := hab.2
    simp only [ltK, decide_eq_false_iff_not, List.not_lt] at h2
    simp only [ltK, decide_eq_true_eq]
    exact List.not_le.1 fun h3 => h1 (List.le_antisymm h2 h3)
theorem rise_sort_reverse (ts : Tags) : riseB (sortT ts.reverse) = riseB (sortT ts) := by
  rw [Bool.eq_iff_iff, rise_sort_iff, rise_sort_iff, List.map_reverse]
  exact (List.reverse_perm _).nodup_iff
/-- Of tags that rise there is one order. -/
theorem rise_unique {a b : Tags} (ha : riseB a = true) (hb : riseB b = true) (h : a.Perm b) : a = b := by
  refine List.Perm.eq_of_pairwise (le := fun x y => ltK x y = true) ?_ (rise_pair a ha) (rise_pair b hb) h
  intro x y _ _ h1 h2
  have := swo_key.asymmA h1
  rw [this] at h2
  cases h2
theorem sort_of_rise {a b : Tags} (ha : riseB a = true) (h : a.Perm b) : sortT b = a := by
  have hn : (b.map keyOf).Nodup := by
    rw [← (h.map keyOf).nodup_iff, List.Nodup, List.pairwise_map]
    refine (rise_pair _ ha).imp fun {x y} hxy => ?_
    simp only [ltK, decide_eq_true_eq] at hxy
    intro e
    rw [e] at hxy
    exact List.lt_irrefl _ hxy
  exact (rise_unique ha ((rise_sort_iff b).2 hn) (h.trans (sortT_perm b).symm)).symm
theorem sort_reverse {ts : Tags} (h : riseB (sortT ts) = true) : sortT ts.reverse = sortT ts :=
  sort_of_rise h ((sortT_perm ts).trans (List.reverse_perm ts).symm)
theorem sort_sort {ts : Tags} (h : riseB (sortT ts) = true) : sortT (sortT ts) = sortT ts := sort_of_rise h (List.Perm.refl _)

theorem may_perm {n : ByteArray} {a b : Tags} {k t : Int} (h : a.Perm b) : mayB n a k t = mayB n b k t := by
  unfold mayB
  rw [h.length_eq]
  have : a.all tagOk = b.all tagOk := by
    rw [Bool.eq_iff_iff, List.all_eq_true, List.all_eq_true]
    exact ⟨fun H x hx => H x (h.mem_iff.2 hx), fun H x hx => H x (h.mem_iff.1 hx)⟩
  rw [this]

/-- The number of the error that a key is refused with; none: it is told. -/
def keyErr (n : ByteArray) (ts : Tags) (k t : Int) : Option Int :=
  if mayB n ts k t then (if riseB (sortT ts) then none else some 5) else some 1
theorem keyErr_reverse (n : ByteArray) (ts : Tags) (k t : Int) : keyErr n ts.reverse k t = keyErr n ts k t := by
  unfold keyErr
  rw [may_perm (List.reverse_perm ts), rise_sort_reverse]
theorem keyErr_none {n : ByteArray} {ts : Tags} {k t : Int} (h : keyErr n ts k t = none) : mayB n ts k t = true ∧ riseB (sortT ts) = true := by
  unfold keyErr at h
  split at h
  · rename_i hm
    split at h
    · rename_i hr; exact ⟨hm, hr⟩
    · cases h
  · cases h
/-- The key's text. -/
def keyL (n : ByteArray) (ts : Tags) : List UInt8 := headL n (sortT ts)
theorem keyL_reverse {n : ByteArray} {ts : Tags} (h : riseB (sortT ts) = true) : keyL n ts.reverse = keyL n ts := by
  unfold keyL
  rw [sort_reverse h]

theorem itoa_zero : Lib.itoa 0 = [48] := by decide +kernel
/-- What makes a line of a key. -/
def restL : List UInt8 := [32, 99, 32, 48, 32, 48]
theorem print_rest (n : ByteArray) (ts : Tags) : printL n ts 1 0 0 = headL n ts ++ restL := by
  unfold printL restL
  rw [itoa_zero]
  simp [letter]
theorem may_of {n : ByteArray} {ts : Tags} {k t : Int} (h : mayB n ts k t = true) : mayB n ts 1 0 = true := by
  unfold mayB at h ⊢
  simp only [Bool.and_eq_true] at h ⊢
  exact ⟨h.1, by decide⟩
/-- A key's line parses as what the key is of. -/
theorem parse_key {n : ByteArray} {ts : Tags} {k t : Int} (h : keyErr n ts k t = none) : parseF ⟨(keyL n ts ++ restL).toArray⟩ = .good ⟨n, sortT ts, 1, 0, 0⟩ := by
  obtain ⟨hm, _⟩ := keyErr_none h
  unfold keyL
  rw [← print_rest]
  exact parse_print (by rw [may_perm (sortT_perm ts)]; exact may_of hm) (by omega) (by omega)
/-- The key of what a key is of. -/
theorem keyErr_of {n : ByteArray} {ts : Tags} {k t : Int} (h : keyErr n ts k t = none) : keyErr n (sortT ts) 1 0 = none ∧ keyL n (sortT ts) = keyL n ts := by
  obtain ⟨hm, hr⟩ := keyErr_none h
  have e := sort_sort hr
  constructor
  · unfold keyErr
    rw [may_perm (sortT_perm ts), may_of hm, e, hr]
    rfl
  · unfold keyL
    rw [e]

/-- No space is in a key. -/
theorem word_no {w : ByteArray} (h : wordB w = true) : ∀ c ∈ w.data.toList, c ≠ 32 := by
  unfold wordB at h
  simp only [Bool.and_eq_true, List.all_eq_true] at h
  intro c hc e
  have := h.1.1 c hc
  rw [e] at this
  exact absurd this (by decide)
theorem head_no {n : ByteArray} {ts : Tags} (hn : wordB n = true) (ht : ts.all tagOk = true) : ∀ c ∈ headL n ts, c ≠ 32 := by
  unfold headL
  intro c hc
  rcases List.mem_append.1 hc with hc | hc
  · exact word_no hn c hc
  · obtain ⟨t, htm, hc⟩ := List.mem_flatMap.1 hc
    have ho := List.all_eq_true.1 ht t htm
    unfold tagOk at ho
    simp only [Bool.and_eq_true] at ho
    unfold tagL at hc
    simp only [List.cons_append, List.mem_cons, List.mem_append] at hc
    rcases hc with rfl | hc | rfl | hc
    · decide
    · exact word_no ho.1 c hc
    · decide
    · exact word_no ho.2 c hc
theorem indexByte_at : ∀ (h r : List UInt8) (c : UInt8), (∀ d ∈ h, d ≠ c) → Lib.indexByte (h ++ c :: r) c = (h.length : Int)
  | [], r, c, _ => by simp [Lib.indexByte]
  | b :: h, r, c, hn => by
    have ih := indexByte_at h r c (fun d hd => hn d (by simp [hd]))
    have hb : (b == c) = false := by simpa using hn b (by simp)
    rw [List.cons_append, Lib.indexByte, hb, ih]
    have : ((h.length : Int) == -1) = false := by rw [beq_eq_false_iff_ne]; omega
    rw [this]
    simp
end Go.Proofs.YtedhciolnekpaaaGreatDoor
namespace Go.Proofs.YtedhciolnekpaaaGreatDoor
open Go.ChangeShapes Go.WideShapes Go.ChangeAt Go.RowKit Go.Sort
set_option linter.unusedVariables false

/-- A tag's two cells. -/
def encTag (t : ByteArray × ByteArray) : List Value := [.string t.1, .string t.2]
/-- Up to a place each key is greater than the one ahead of it. -/
def Rose (ts : Tags) (i : Nat) : Prop := ∀ j a b, j + 1 < i → ts[j]? = some a → ts[j + 1]? = some b → ltK a b = true
theorem geq_key (a b : ByteArray × ByteArray) : Op.bytesLess a.1.toList b.1.toList = ltK a b := by
  rw [bytesLess_eq, Lib.toList_data, Lib.toList_data]
  rfl

set_option maxHeartbeats 1000000 in
theorem seriesRise (A : Option Addr) (c : Nat) (ts : Tags) (w : World) (hr : RdT w A ts) (hl : ts.length ≤ 1000) :
    Calls Tryz.prog 53 #[.slice A ts.length c] w (BB (riseB ts) w) := by
  have HR := Lib.hid hr
  clear hr
  go_enter Tryz.func53, Tryz.ntmps53
  go_wp2
  go_loopg [3] (ts.length) (fun g s3 wx => ∃ (i n : Nat), i + g = ts.length + 1 ∧ 1 ≤ i ∧ s3 = .int .i64 i ∧ Hid (Rose ts i ∧ wx = w.drewN n))
  case atStart => exact ⟨1, 0, by omega, Nat.le_refl _, rfl, Lib.hid ⟨fun j a b h => by omega, rfl⟩⟩
  case round =>
    obtain ⟨i, n, hig, h1, rfl, HW⟩ := hrel
    obtain ⟨hro, hw⟩ := HW.out
    subst hw
    have HO := Lib.hid hro
    clear HW hro
    by_cases hlt : i < ts.length
    · have hltz : (i : Int) < (ts.length : Int) := by omega
      obtain ⟨u, hu⟩ : ∃ u, i = u + 1 := ⟨i - 1, by omega⟩
      obtain ⟨x, hx⟩ : ∃ x, ts[u]? = some x := ⟨_, List.getElem?_eq_getElem (by omega)⟩
      obtain ⟨y, hy⟩ : ∃ y, ts[i]? = some y := ⟨_, List.getElem?_eq_getElem hlt⟩
      have HN : Hid (ltK x y = true → Rose ts (i + 1)) := Lib.hid (fun hl j a b hj ha hb => by
        rcases Nat.lt_or_ge (j + 1) i with h | h
        · exact HO.out j a b h ha hb
        · have : j = u := by omega
          subst this
          rw [hx] at ha
          rw [← hu, hy] at hb
          cases ha; cases hb
          exact hl)
      have HF : Hid (ltK x y = false → riseB ts = false) := Lib.hid (fun hl => by
        rw [Bool.eq_false_iff]
        intro h
        rw [(rise_iff ts).1 h u x y hx (by rw [← hu]; exact hy)] at hl
        cases hl)
      rcases HR.out with h | ⟨b, o, rfl, hc⟩
      · rw [h] at hlt; simp at hlt
      obtain ⟨p0, _⟩ := hc u x.1 x.2 hx
      obtain ⟨q0, _⟩ := hc i y.1 y.2 hy
      have e := geq_key x y
      have hz : IntKind.i64.wrap ((i : Int) - 1) = (u : Int) := by rw [IntKind.wrap_i64]; omega
      have l0 : (u : Int) < (ts.length : Int) := by omega
      have l2 : u < ts.length := by omega
      clear hc hx hy HO hu
      rcases hl : ltK x y with _ | _
      · rw [hl] at e
        have HF := Lib.hid (HF.out hl)
        clear hl HN
        go_wp2
        go_quiet (fail)
        go_wp2
        go_ret
        exact ⟨ret_bool HF.out.symm, below_of_grown (grown_drew (grown_drew (grown_refl _ _) _) _)⟩
      · rw [hl] at e
        have HN := Lib.hid (HN.out hl)
        clear hl HF
        go_wp2
        go_quiet (fail)
        go_wp2
        go_roundg (gk - 1)
        case rel => exact ⟨i + 1, _, by omega, by omega, by go_num, Lib.hid ⟨HN.out, rfl⟩⟩
        case measure => omega
    · have e1 : decide ((i : Int) < (ts.length : Int)) = false := decide_eq_false (by omega)
      have e2 : decide (i < ts.length) = false := decide_eq_false hlt
      have HT : Hid (riseB ts = true) := Lib.hid ((rise_iff ts).2 fun j a b ha hb => HO.out j a b (by have := (List.getElem?_eq_some_iff.1 hb).1; omega) ha hb)
      go_wp2
      go_ret
      exact ⟨ret_bool HT.out.symm, below_of_grown (grown_drew (grown_refl _ _) _)⟩

def Cuts (h : List UInt8) (w : World) (e : Ending) (w' : World) : Prop := ∃ y : ByteArray, e = .returned (.tuple #[.string ⟨h.toArray⟩, .string y, .bool true]) ∧ Below w.heap.size w w'
end Go.Proofs.YtedhciolnekpaaaGreatDoor
namespace Go.Proofs.YtedhciolnekpaaaGreatDoor
open Go.ChangeShapes Go.WideShapes Go.ChangeAt Go.RowKit
set_option linter.unusedVariables false

theorem OwnT.below {w w' : World} {base : Nat} {A : Option Addr} {cap : Nat} {ts : Tags} (h : OwnT w base A cap ts) (hg : Below w.heap.size w w') : OwnT w' base A cap ts := by
  refine World.ownsRow.kept h (grown_of (r := none) hg) ?_
  cases hv : (Value.slice A ts.length cap).ownBlock with
  | none => exact .inl rfl
  | some g => exact .inr (by simp)
/-- Where the copying of tags stands. -/
structure AtC (w : World) (ts : Tags) (i : Nat) (A : Option Addr) (cap : Nat) (wr : World) : Prop where
  below : Below w.heap.size w wr
  own : OwnT wr w.heap.size A cap (ts.take i)
theorem AtC.on {w : World} {ts : Tags} {i : Nat} {A : Option Addr} {cap : Nat} {wr w' : World} (h : AtC w ts i A cap wr) (b : Below wr.heap.size wr w') : AtC w ts i A cap w' :=
  ⟨h.below.trans (b.mono h.below.size), h.own.below b⟩
theorem below_drewS (w : World) (n : Nat) : Below w.heap.size w (w.drewN n) := below_of_grown (grown_drew (grown_refl _ _) n)
theorem below_drew1 (w : World) : Below w.heap.size w w.drew := ⟨rfl, rfl, rfl, Nat.le_refl _, fun _ _ => rfl⟩
theorem below_new (w : World) (o : Obj) : Below w.heap.size w (w.alloc o) := (Below.refl _ _).alloc (Nat.le_refl _) _
/-- What a region of copyTags keeps. -/
theorem keepS {N : Nat} {x y : ByteArray} {w1 w2 : World}
    (h : w1.cell? ⟨N, 0, none⟩ = some (.string x) ∧ w1.cell? ⟨N, 1, none⟩ = some (.string y)) (b : Below w1.heap.size w1 w2) :
    w2.cell? ⟨N, 0, none⟩ = some (.string x) ∧ w2.cell? ⟨N, 1, none⟩ = some (.string y) :=
  ⟨by rw [b.cell (World.block_lt_of_cell? w1 _ h.1)]; exact h.1, by rw [b.cell (World.block_lt_of_cell? w1 _ h.2)]; exact h.2⟩
theorem cell_grown {w1 w2 : World} {r : Option Nat} (g : w1.grownBy w2 r) {N o : Nat} {v : Value} (h : w1.cell? ⟨N, o, none⟩ = some v) (hr : r ≠ some N) : w2.cell? ⟨N, o, none⟩ = some v := by
  rw [World.cell?_of_block (g.block N (World.block_lt_of_cell? w1 _ h) (fun e => hr e.symm))]
  exact h
theorem keepG {N : Nat} {x y : ByteArray} {w1 w2 : World} {r : Option Nat}
    (h : w1.cell? ⟨N, 0, none⟩ = some (.string x) ∧ w1.cell? ⟨N, 1, none⟩ = some (.string y)) (g : w1.grownBy w2 r) (hr : r ≠ some N) :
    w2.cell? ⟨N, 0, none⟩ = some (.string x) ∧ w2.cell? ⟨N, 1, none⟩ = some (.string y) := ⟨cell_grown g h.1 hr, cell_grown g h.2 hr⟩

theorem append_tag_far {w : World} {base : Nat} {A : Option Addr} {cap : Nat} {ts : Tags} (x y : ByteArray) (h : OwnT w base A cap ts) (hb : base ≤ w.heap.size) (hl : ts.length ≤ 100) :
    ∃ A' cap' w', (Builtin.append_ #[76, 76] 76 #[.slice A ts.length cap, .slice (some ⟨w.heap.size, 0, none⟩) 1 1]).run Tryz.prog (w.alloc (.cells #[.string x, .string y] 109)) = .ok (.slice A' (ts.length + 1) cap') w' ∧
      OwnT w' base A' cap' (ts ++ [(x, y)]) ∧ Below base w w' ∧ (w.alloc (.cells #[.string x, .string y] 109)).grownBy w' (Value.slice A ts.length cap).ownBlock := by
  cases hi : Tryz.prog.info? 109 with
  | none => have := infoT; rw [hi] at this; cases this
  | some i =>
    have hI := infoT
    rw [hi] at hI
    simp only [Option.map_some, Option.some.injEq, Prod.mk.injEq] at hI
    obtain ⟨hz, hz1, hz2⟩ := hI
    obtain ⟨v', w', hrun, hown, hgr, hnil⟩ := run_append_own (P := Tryz.prog) (w.alloc (.cells #[.string x, .string y] 109)) base 76 76 109 i _ 2 32 Tryz.underlying76 hi hz hz1 hz2 rfl (by omega) _ _ _ (h.alloc _) ⟨w.heap.size, 0, none⟩ 1 1 [.string x, .string y] rfl
      (fun j u hu => by
        match j, hu with
        | 0, hu => cases hu; simp [Addr.add]
        | 1, hu => cases hu; simp [Addr.add])
      (fun u hu => by
        simp only [List.mem_cons, List.not_mem_nil, or_false] at hu
        rcases hu with rfl | rfl <;> rfl)
      (by unfold maxLen; omega) (by omega) (by simp; omega)
    have hb0 : Below base w (w.alloc (.cells #[.string x, .string y] 109)) := (Below.refl _ _).alloc hb _
    have hb1 : Below base w w' := hb0.trans ⟨hgr.os, hgr.tape, hgr.output, hgr.size, fun k hk => hgr.block k (by simp; omega) (fun e => by
      have := (World.ownsRow.lt h k e.symm).1
      omega)⟩
    rcases hown.2 with ⟨e, hn0⟩ | ⟨g', cap', cur, rfl, r⟩
    · omega
    · refine ⟨_, _, w', hrun, ?_, hb1, hgr⟩
      unfold OwnT
      rw [List.length_append, tagCells_snoc]
      exact hown

/-- An append of one tag, as a step of a region that draws. -/
theorem step_append_tag {ops : Array Oper} {o : Oper} {a : Act} {w0 : World} {K : Act → World → Prop} {Q : Exit → Act → World → Prop} {E : Prop}
    (hgd : o.guard = none) (s z : Operand) (hop : o.op = Op.call { callee := Callee.builtin Builtin.append, args := #[s, z], argTypes := #[76, 76] }) (hty : o.type = 76)
    {base n : Nat} {A : Option Addr} {cap : Nat} {ts : Tags} {x y : ByteArray} (hs : a.eval s = .slice A n cap) (hn : n = ts.length) (hz : a.eval z = .slice (some ⟨w0.heap.size, 0, none⟩) 1 1)
    (h : OwnT w0 base A cap ts) (hb : base ≤ w0.heap.size) (hl : ts.length ≤ 100)
    (hK : ∀ A' cap' w', OwnT w' base A' cap' (ts ++ [(x, y)]) → Below base w0 w' → (w0.alloc (.cells #[.string x, .string y] 109)).grownBy w' (Value.slice A n cap).ownBlock → K (a.put o.dst (.slice A' (n + 1) cap')) w') :
    if Region.wanted o (yielded ops a.tmps) = true then Oper.wp Tryz.prog o a (w0.alloc (.cells #[.string x, .string y] 109)) K Q else E := by
  subst hn
  obtain ⟨A', cap', w', hrun, ho, hbe, hgr⟩ := append_tag_far x y h hb hl
  have hw : Region.wanted o (yielded ops a.tmps) = true := by simp [Region.wanted, hgd]
  rw [if_pos hw]
  unfold Oper.wp
  rw [← hty] at hrun
  simp [execOp, hop, resolve, invoke, builtin, hs, hz, hty] at hrun ⊢
  simp [hrun, Result.andThen]
  exact hK _ _ _ ho hbe hgr

theorem AtC.append {w : World} {ts : Tags} {i : Nat} {B : Option Addr} {cap : Nat} {w0 : World} (h : AtC w ts i B cap w0) {x y : ByteArray} (hx : ts[i]? = some (x, y)) (hl : ts.length ≤ 6)
    {ops : Array Oper} {o : Oper} {a : Act} {K : Act → World → Prop} {Q : Exit → Act → World → Prop} {E : Prop} (hgd : o.guard = none) (s z : Operand)
    (hop : o.op = Op.call { callee := Callee.builtin Builtin.append, args := #[s, z], argTypes := #[76, 76] }) (hty : o.type = 76)
    (hs : a.eval s = .slice B i cap) (hz : a.eval z = .slice (some ⟨w0.heap.size, 0, none⟩) 1 1)
    (hK : ∀ A' cap' w', Hid (AtC w ts (i + 1) A' cap' w') → (w0.alloc (.cells #[.string x, .string y] 109)).grownBy w' (Value.slice B i cap).ownBlock → K (a.put o.dst (.slice A' (i + 1) cap')) w') :
    if Region.wanted o (yielded ops a.tmps) = true then Oper.wp Tryz.prog o a (w0.alloc (.cells #[.string x, .string y] 109)) K Q else E := by
  obtain ⟨hi, e⟩ := List.getElem?_eq_some_iff.1 hx
  have hlen : i = (ts.take i).length := by rw [List.length_take]; omega
  refine step_append_tag hgd s z hop hty hs hlen hz h.own h.below.size (by omega) fun A' cap' w' ho hb hg => hK A' cap' w' (Lib.hid ⟨h.below.trans hb, ?_⟩) hg
  rw [List.take_succ_eq_append_getElem hi, e]
  exact ho

def CopyPost (w : World) (ts : Tags) (e : Ending) (w' : World) : Prop := ∃ A cap, e = .returned (.slice A ts.length cap) ∧ OwnT w' w.heap.size A cap ts ∧ Below w.heap.size w w'

end Go.Proofs.YtedhciolnekpaaaGreatDoor
namespace Go.Proofs.YtedhciolnekpaaaGreatDoor
open Go.ChangeShapes Go.WideShapes Go.ChangeAt Go.RowKit Go.Sort Go.Shelf
set_option linter.unusedVariables false

theorem tagsCell_at (ts : Tags) (j : Nat) (hj : j < ts.length * 2) : (tagCells ts)[j]? = some (flatK encTag 2 ts.toArray)[j]! := by
  rw [get_flatK encTag 2 ts.toArray j (by simpa using hj)]
  have hi : j / 2 < ts.length := by omega
  obtain ⟨x, y, h⟩ : ∃ x y, ts[j / 2]? = some (x, y) := ⟨_, _, List.getElem?_eq_getElem hi⟩
  have hxy := (List.getElem?_eq_some_iff.1 h).2
  have e : ts.toArray[j / 2]! = (x, y) := by rw [getElem!_pos ts.toArray (j / 2) (by simpa using hi)]; simpa using hxy
  rw [e]
  obtain ⟨h0, h1⟩ := tagCells_at ts (j / 2) x y h
  rcases (by omega : j % 2 = 0 ∨ j % 2 = 1) with hm | hm
  · rw [hm, show j = j / 2 * 2 by omega]
    exact h0
  · rw [hm, show j = j / 2 * 2 + 1 by omega]
    exact h1
theorem holds_own {w : World} {base g cap : Nat} {ts : Tags} (h : OwnT w base (some ⟨g, 0, none⟩) cap ts) : HoldsK encTag 2 w g 0 ts.toArray ∧ g < w.heap.size := by
  rcases h.2 with ⟨hv, _⟩ | ⟨g', cap', cur, hv, _, hg, _, _, hcs, htake⟩
  · cases hv
  · cases hv
    refine ⟨fun j hj => ?_, lt_of_block hg⟩
    rw [size_flatK] at hj
    have hj' : j < ts.length * 2 := by simpa using hj
    rw [Nat.zero_add]
    refine ⟨?_, frozen_of_block hg⟩
    show w.cell? ⟨g, j, none⟩ = some (flatK encTag 2 ts.toArray)[j]!
    rw [cell_of_block hg, ← tagsCell_at ts j hj', ← htake, List.getElem?_take, if_pos hj']
    simp
theorem rd_holds {w : World} {g : Nat} {ts : Tags} (h : HoldsK encTag 2 w g 0 ts.toArray) : RdT w (some ⟨g, 0, none⟩) ts := by
  refine .inr ⟨g, 0, rfl, fun i x y hi => ?_⟩
  obtain ⟨hl, e⟩ := List.getElem?_eq_some_iff.1 hi
  have e' : ts.toArray[i]! = (x, y) := by rw [getElem!_pos ts.toArray i (by simpa using hl)]; simpa using e
  have c0 := (HoldsK.cell h (i := i) (c := 0) (by simpa using hl) (by omega)).1
  have c1 := (HoldsK.cell h (i := i) (c := 1) (by simpa using hl) (by omega)).1
  rw [e'] at c0 c1
  exact ⟨c0, c1⟩
theorem grown_sorted (w : World) (g n : Nat) (d : Array (ByteArray × ByteArray)) (os : Array Obj) : w.grownBy (sortWorldK encTag 2 w g 0 n d os) (some g) := by
  refine ⟨rfl, rfl, rfl, ?_, fun k hk hr => ?_⟩
  · exact size_sortWorldK_c encTag 2 w g 0 n d os
  · unfold sortWorldK
    rw [heap_grow_old _ _ (by rw [show (putRowK encTag 2 (Go.Sort.ahead w n) g 0 d).heap.size = w.heap.size from size_putRow id _ g 0 _]; exact hk)]
    show ((w.heap.modify g _)[k]? : Option Obj) = _
    rw [Array.getElem?_modify, if_neg (fun e => hr (by rw [e]))]

def SortPost (w : World) (A : Option Addr) (cap : Nat) (ts : Tags) (e : Ending) (w' : World) : Prop :=
  e = .returned (.tuple #[]) ∧ RdT w' A (sortT ts) ∧ w.grownBy w' (Value.slice A ts.length cap).ownBlock
end Go.Proofs.YtedhciolnekpaaaGreatDoor
