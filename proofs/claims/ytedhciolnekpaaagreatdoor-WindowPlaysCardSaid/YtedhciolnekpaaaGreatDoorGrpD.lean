/-
  Layer 4: the document's own Same, at two events that are alike.
  Layer 4: whether an event may be, the program's and the document's own; and whether it is small enough to be gone through.
  Layer 4 (line), what is of no program: the numbers that are written in the one way, reckoned digit by digit.
-/
import Derived.Test.YtedhciolnekpaaaGreatDoorGrpC
import Derived.Test.YtedhciolnekpaaaGreatDoorQLineEvent
import Derived.Lib.ItoaMem
namespace Go.Proofs.YtedhciolnekpaaaGreatDoor
open Go.ChangeShapes Go.WideShapes Go.ChangeAt Go.RowKit
set_option linter.unusedVariables false

/-- Tags, wherever they lie. -/
def RdT (w : World) (A : Option Addr) (ts : Tags) : Prop :=
  ts = [] ∨ ∃ b o, A = some ⟨b, o, none⟩ ∧ ∀ i x y, ts[i]? = some (x, y) → w.cell? ⟨b, o + i * 2, none⟩ = some (.string x) ∧ w.cell? ⟨b, o + i * 2 + 1, none⟩ = some (.string y)
theorem RdT.keep {w w' : World} {A : Option Addr} {ts : Tags} (h : RdT w A ts) (hk : ∀ b o v, w.cell? ⟨b, o, none⟩ = some v → w'.cell? ⟨b, o, none⟩ = some v) : RdT w' A ts := by
  rcases h with h | ⟨b, o, e, h⟩
  · exact .inl h
  · exact .inr ⟨b, o, e, fun i x y hi => ⟨hk _ _ _ (h i x y hi).1, hk _ _ _ (h i x y hi).2⟩⟩
theorem RdT.below {w w' : World} {A : Option Addr} {ts : Tags} (h : RdT w A ts) (hb : Below w.heap.size w w') : RdT w' A ts :=
  h.keep fun b o v hc => by rw [hb.cell (World.block_lt_of_cell? w _ hc), hc]
theorem RdT.alloc {w : World} {A : Option Addr} {ts : Tags} (h : RdT w A ts) (x : Obj) : RdT (w.alloc x) A ts := h.below ((Below.refl _ _).alloc (Nat.le_refl _) _)
theorem tagCells_at (ts : Tags) : ∀ i x y, ts[i]? = some (x, y) → (tagCells ts)[i * 2]? = some (.string x) ∧ (tagCells ts)[i * 2 + 1]? = some (.string y) := by
  induction ts with
  | nil => intro i x y h; simp at h
  | cons t r ih =>
    intro i x y h
    cases i with
    | zero => simp at h; subst h; exact ⟨rfl, rfl⟩
    | succ i =>
      have h' : r[i]? = some (x, y) := by simpa using h
      have := ih i x y h'
      rw [show (i + 1) * 2 = i * 2 + 1 + 1 by omega]
      exact this
theorem OwnT.rd {w : World} {base : Nat} {A : Option Addr} {cap : Nat} {ts : Tags} (h : OwnT w base A cap ts) : RdT w A ts := by
  rcases h.2 with ⟨hv, hn⟩ | ⟨g, cap', cur, hv, hb, hg, hnc, hcm, hcs, htake⟩
  · exact .inl (List.eq_nil_of_length_eq_zero hn)
  · have hA : A = some ⟨g, 0, none⟩ := by cases hv; rfl
    refine .inr ⟨g, 0, hA, fun i x y hi => ?_⟩
    obtain ⟨h0, h1⟩ := tagCells_at ts i x y hi
    have hl := tagCells_length ts
    have hi' : i < ts.length := (List.getElem?_eq_some_iff.1 hi).1
    constructor
    · rw [Nat.zero_add, cell_of_block hg, ← h0, ← htake, List.getElem?_take, if_pos (by omega)]; simp
    · rw [Nat.zero_add, cell_of_block hg, ← h1, ← htake, List.getElem?_take, if_pos (by omega)]; simp

theorem eq_pair (x y : ByteArray) (w : World) : (Op.equalIn 10000 109 (.agg #[.string x, .string y]) (.agg #[.string x, .string y])).run Tryz.prog w = .ok true w := by
  have u9 := Tryz.underlying9
  have a9 := Tryz.isAgg9
  have z9 := Tryz.sizeOf9
  have hS : Tryz.prog.underlying 109 = some (.struct (Tryz.prog.fieldsOf 109)) := by kernel_rfl
  have hp : Tryz.prog.stoodInHeld 109 = false := by kernel_rfl
  rw [show (10000 : Nat) = 9999 + 1 from rfl, run_equalIn_agg w 9999 109 _ _ hS hp]
  simp only [Program.fieldsOf, Tryz.underlying109]
  go_simp
theorem guard_pair : Tryz.prog.eqGuardType Tryz.prog.depth 109 = false := by kernel_rfl

end Go.Proofs.YtedhciolnekpaaaGreatDoor
namespace Go.Proofs.YtedhciolnekpaaaGreatDoor
open Go.ChangeShapes Go.WideShapes Go.ChangeAt Go.RowKit
set_option linter.unusedVariables false

def tagOk (t : ByteArray × ByteArray) : Bool := wordB t.1 && wordB t.2
def restOk (k t : Int) : Bool := decide (1 ≤ k) && decide (k ≤ 3) && decide (0 ≤ t) && decide (t ≤ 1099511627776)
def mayB (n : ByteArray) (ts : Tags) (k t : Int) : Bool := wordB n && decide (ts.length ≤ 6) && ts.all tagOk && restOk k t
def Small (n : ByteArray) (ts : Tags) : Prop := n.size ≤ 100 ∧ ts.length ≤ 20 ∧ ∀ x y, (x, y) ∈ ts → x.size ≤ 100 ∧ y.size ≤ 100

/-- Tags that are gone through in a block of an event, wherever they lie. -/
structure Go4 (w : World) (g : Nat) (n : ByteArray) (A : Option Addr) (c : Nat) (k v t : Int) (ts : Tags) (wr : World) : Prop where
  below : Below w.heap.size w wr
  ev : EvB wr g n A ts.length c k v t
  rd : RdT wr A ts
theorem Go4.at {w : World} {g : Nat} {n : ByteArray} {A : Option Addr} {c : Nat} {k v t : Int} {ts : Tags} {wr : World} (h : Go4 w g n A c k v t ts wr) {i : Nat} {x y : ByteArray} (hi : ts[i]? = some (x, y)) :
    ∃ b o, A = some ⟨b, o, none⟩ ∧ wr.cell? ⟨b, o + i * 2, none⟩ = some (.string x) ∧ wr.cell? ⟨b, o + i * 2 + 1, none⟩ = some (.string y) := by
  rcases h.rd with h0 | ⟨b, o, e, hc⟩
  · rw [h0] at hi; simp at hi
  · exact ⟨b, o, e, hc i x y hi⟩
theorem Go4.start (w : World) (n : ByteArray) (A : Option Addr) (c : Nat) (k v t : Int) (ts : Tags) (hr : RdT w A ts) :
    Go4 w w.heap.size n A c k v t ts (w.alloc (.cells #[.string n, .slice A ts.length c, .int .i64 k, .int .i64 v, .int .i64 t] 78)) :=
  ⟨(Below.refl _ _).alloc (Nat.le_refl _) _, heap_alloc_new w _, hr.alloc _⟩
theorem Go4.more {w : World} {g : Nat} {n : ByteArray} {A : Option Addr} {c : Nat} {k v t : Int} {ts : Tags} {wr : World} (h : Go4 w g n A c k v t ts wr) (o : Obj) : Go4 w g n A c k v t ts (wr.alloc o) :=
  ⟨h.below.alloc h.below.size _, by unfold EvB; rw [(World.grownBy_alloc _ _ none).block _ (lt_of_block h.ev) (by simp)]; exact h.ev, h.rd.alloc _⟩

theorem Go4.drew {w : World} {g : Nat} {n : ByteArray} {A : Option Addr} {c : Nat} {k v t : Int} {ts : Tags} {wr : World} (h : Go4 w g n A c k v t ts wr) (m : Nat) : Go4 w g n A c k v t ts (wr.drewN m) :=
  ⟨⟨h.below.os, h.below.tape, h.below.output, h.below.size, h.below.block⟩, h.ev, h.rd.keep fun b o x hc => hc⟩
def BB (b : Bool) (w : World) (e : Ending) (w' : World) : Prop := e = .returned (.bool b) ∧ Below w.heap.size w w'
theorem all_false {ts : Tags} {i : Nat} {x y : ByteArray} (h : ts[i]? = some (x, y)) (hb : tagOk (x, y) = false) : ts.all tagOk = false := by
  rw [List.all_eq_false]; exact ⟨(x, y), List.mem_of_getElem? h, by rw [hb]; simp⟩
def AllOk (ts : Tags) (i : Nat) : Prop := (ts.take i).all tagOk = true
theorem AllOk.next {ts : Tags} {i : Nat} {x y : ByteArray} (h : AllOk ts i) (hi : ts[i]? = some (x, y)) (hb : tagOk (x, y) = true) : AllOk ts (i + 1) := by
  unfold AllOk at h ⊢
  obtain ⟨hl, e⟩ := List.getElem?_eq_some_iff.1 hi
  rw [List.take_succ_eq_append_getElem hl, List.all_append, h, e]
  simp [hb]
theorem AllOk.whole {ts : Tags} {i : Nat} (h : AllOk ts i) (hi : ts.length ≤ i) : ts.all tagOk = true := by
  unfold AllOk at h
  rwa [List.take_of_length_le hi] at h

/-- How the last test goes, of the kind and the time. -/
theorem rest_cases (k t : Int) : (decide (1 ≤ k) = false ∧ restOk k t = false) ∨ (decide (1 ≤ k) = true ∧ decide (k ≤ 3) = false ∧ restOk k t = false)
    ∨ (decide (1 ≤ k) = true ∧ decide (k ≤ 3) = true ∧ decide (0 ≤ t) = false ∧ restOk k t = false) ∨ (decide (1 ≤ k) = true ∧ decide (k ≤ 3) = true ∧ decide (0 ≤ t) = true ∧ decide (t ≤ 1099511627776) = false ∧ restOk k t = false)
    ∨ (decide (1 ≤ k) = true ∧ decide (k ≤ 3) = true ∧ decide (0 ≤ t) = true ∧ decide (t ≤ 1099511627776) = true ∧ restOk k t = true) := by
  unfold restOk
  cases h1 : decide (1 ≤ k)
  · exact .inl ⟨rfl, by simp⟩
  cases h2 : decide (k ≤ 3)
  · exact .inr (.inl ⟨rfl, rfl, by simp⟩)
  cases h3 : decide (0 ≤ t)
  · exact .inr (.inr (.inl ⟨rfl, rfl, rfl, by simp⟩))
  cases h4 : decide (t ≤ 1099511627776)
  · exact .inr (.inr (.inr (.inl ⟨rfl, rfl, rfl, rfl, by simp⟩)))
  · exact .inr (.inr (.inr (.inr ⟨rfl, rfl, rfl, rfl, by simp⟩)))

end Go.Proofs.YtedhciolnekpaaaGreatDoor
namespace Go.Proofs.YtedhciolnekpaaaGreatDoor

def digitOn (a : Nat) (c : UInt8) : Nat := 10 * a + (c.toNat - 48)
def natFrom (a : Nat) (l : List UInt8) : Nat := l.foldl digitOn a
theorem rev_ind {P : List UInt8 → Prop} (h0 : P []) (h1 : ∀ l c, P l → P (l ++ [c])) (l : List UInt8) : P l := by
  have : ∀ m : List UInt8, P m.reverse := fun m => by
    induction m with
    | nil => exact h0
    | cons c m ih => rw [List.reverse_cons]; exact h1 _ c ih
  have h := this l.reverse
  rwa [List.reverse_reverse] at h
def natOf (l : List UInt8) : Nat := natFrom 0 l
theorem natFrom_cons (a : Nat) (c : UInt8) (l : List UInt8) : natFrom a (c :: l) = natFrom (10 * a + (c.toNat - 48)) l := by
  have h : natFrom a (c :: l) = natFrom (digitOn a c) l := by unfold natFrom; rw [List.foldl_cons]
  rw [h, digitOn]
theorem natFrom_nil (a : Nat) : natFrom a [] = a := by unfold natFrom; rw [List.foldl_nil]
theorem natFrom_snoc (c : UInt8) : ∀ (l : List UInt8) (a : Nat), natFrom a (l ++ [c]) = 10 * natFrom a l + (c.toNat - 48)
  | [], a => by rw [List.nil_append, natFrom_cons, natFrom_nil, natFrom_nil]
  | d :: l, a => by rw [List.cons_append, natFrom_cons, natFrom_cons, natFrom_snoc c l]
theorem natOf_nil : natOf [] = 0 := by unfold natOf; rw [natFrom_nil]
theorem natOf_snoc (l : List UInt8) (c : UInt8) : natOf (l ++ [c]) = 10 * natOf l + (c.toNat - 48) := natFrom_snoc c l 0
theorem natFrom_ge : ∀ (l : List UInt8) (a : Nat), a ≤ natFrom a l
  | [], a => by rw [natFrom_nil]; exact Nat.le_refl _
  | c :: l, a => by rw [natFrom_cons]; have := natFrom_ge l (10 * a + (c.toNat - 48)); omega
theorem isD_iff (c : UInt8) : isD c = true ↔ 48 ≤ c.toNat ∧ c.toNat ≤ 57 := by unfold isD; simp
theorem natOf_lt (l : List UInt8) (h : ∀ c ∈ l, isD c = true) : natOf l < 10 ^ l.length := by
  induction l using rev_ind with
  | h0 => rw [natOf_nil]; simp
  | h1 l c ih =>
    have hc := (isD_iff c).1 (h c (by simp))
    have := ih (fun d hd => h d (by simp [hd]))
    rw [natOf_snoc, List.length_append, List.length_singleton, Nat.pow_succ]
    omega
def lead (l : List UInt8) : Prop := ∀ c, l.head? = some c → c.toNat ≠ 48
theorem natFrom_digits : ∀ (l : List UInt8) (a : Nat), a * 10 ^ l.length ≤ natFrom a l
  | [], a => by rw [natFrom_nil]; simp
  | c :: l, a => by
    rw [natFrom_cons, List.length_cons, Nat.pow_succ]
    have := natFrom_digits l (10 * a + (c.toNat - 48))
    have h2 : a * (10 ^ l.length * 10) ≤ (10 * a + (c.toNat - 48)) * 10 ^ l.length := by
      rw [Nat.add_mul]
      have : a * (10 ^ l.length * 10) = 10 * a * 10 ^ l.length := by rw [Nat.mul_comm (10 ^ l.length) 10, ← Nat.mul_assoc, Nat.mul_comm a 10]
      omega
    omega
theorem natOf_ge {c : UInt8} {l : List UInt8} (h : isD c = true) (h0 : c.toNat ≠ 48) : 10 ^ l.length ≤ natOf (c :: l) := by
  have hc := (isD_iff c).1 h
  have := natFrom_digits l (10 * 0 + (c.toNat - 48))
  unfold natOf
  rw [natFrom_cons]
  refine Nat.le_trans ?_ this
  have : 1 * 10 ^ l.length ≤ (10 * 0 + (c.toNat - 48)) * 10 ^ l.length := Nat.mul_le_mul_right _ (by omega)
  omega

theorem u8_digit (c : UInt8) (h : isD c = true) : UInt8.ofNat (48 + (c.toNat - 48)) = c := by
  have hc := (isD_iff c).1 h
  rw [show 48 + (c.toNat - 48) = c.toNat by omega]
  exact UInt8.ofNat_toNat
/-- Digits without a 0 ahead are the numeral of their number. -/
theorem dec_natOf (l : List UInt8) (hne : l ≠ []) (hd : ∀ c ∈ l, isD c = true) (hc : lead l ∨ l.length = 1) : Lib.decDigits (natOf l) = l := by
  induction l using rev_ind with
  | h0 => exact absurd rfl hne
  | h1 l c ih =>
    have hcd := hd c (by simp)
    have hcb := (isD_iff c).1 hcd
    cases l with
    | nil =>
      have e : natOf ([] ++ [c]) = c.toNat - 48 := by rw [natOf_snoc, natOf_nil]; omega
      rw [e, Lib.decDigits_one (by omega), u8_digit c hcd]; rfl
    | cons d l =>
      have hl : lead (d :: l) := by
        rcases hc with h | h
        · intro x hx; exact h x (by simpa using hx)
        · simp at h
      have hpos : 1 ≤ natOf (d :: l) := by
        have := natOf_ge (l := l) (hd d (by simp)) (hl d rfl)
        have := Nat.one_le_pow l.length 10 (by omega)
        omega
      have ih' := ih (by simp) (fun x hx => hd x (by simp only [List.mem_append]; exact .inl hx)) (.inl hl)
      rw [natOf_snoc, Lib.decDigits, dif_neg (by omega), show (10 * natOf (d :: l) + (c.toNat - 48)) / 10 = natOf (d :: l) by omega, ih', show (10 * natOf (d :: l) + (c.toNat - 48)) % 10 = c.toNat - 48 by omega, u8_digit c hcd]
theorem digit_toNat (k : Nat) (h : k < 10) : (UInt8.ofNat (48 + k)).toNat = 48 + k := by rw [UInt8.toNat_ofNat']; omega
theorem dec_digits (u : Nat) : ∀ c ∈ Lib.decDigits u, isD c = true := by
  induction u using Nat.strongRecOn with
  | _ u ih =>
    intro c hc
    have one : ∀ k, k < 10 → isD (UInt8.ofNat (48 + k)) = true := fun k hk => by
      rw [isD_iff, digit_toNat k hk]; omega
    rw [Lib.decDigits] at hc
    split at hc
    · rw [List.mem_singleton.1 hc]; exact one u (by omega)
    · rcases List.mem_append.1 hc with h | h
      · exact ih (u / 10) (by omega) c h
      · rw [List.mem_singleton.1 h]; exact one (u % 10) (by omega)
theorem dec_ne (u : Nat) : Lib.decDigits u ≠ [] := by
  rw [Lib.decDigits]; split <;> simp
theorem dec_lead (u : Nat) (hu : 1 ≤ u) : lead (Lib.decDigits u) := by
  induction u using Nat.strongRecOn with
  | _ u ih =>
    intro c hc
    rw [Lib.decDigits] at hc
    split at hc
    · rename_i hlt
      have e : UInt8.ofNat (48 + u) = c := Option.some.inj hc
      rw [← e, digit_toNat u hlt]; omega
    · have := ih (u / 10) (by omega) (by omega)
      refine this c ?_
      rw [List.head?_append] at hc
      cases h : (Lib.decDigits (u / 10)).head? with
      | none => exact absurd (List.head?_eq_none_iff.1 h) (dec_ne _)
      | some d => rw [h] at hc; exact hc
theorem natOf_dec (u : Nat) : natOf (Lib.decDigits u) = u := by
  induction u using Nat.strongRecOn with
  | _ u ih =>
    rw [Lib.decDigits]
    split
    · rename_i hlt
      have := natOf_snoc [] (UInt8.ofNat (48 + u))
      rw [List.nil_append, natOf_nil, digit_toNat u hlt] at this
      omega
    · rw [natOf_snoc, ih (u / 10) (by omega), digit_toNat (u % 10) (by omega)]; omega

theorem parseUint_digits : ∀ (l : List UInt8) (a : Nat), (∀ c ∈ l, isD c = true) → a ≤ 18446744073709551615 →
    Lib.parseUintM 18446744073709551615 a l = if natFrom a l ≤ 18446744073709551615 then .ok (natFrom a l) else .range
  | [], a, _, ha => by rw [Lib.parseUintM, natFrom_nil, if_pos ha]
  | c :: l, a, h, ha => by
    have hc := (isD_iff c).1 (h c (by simp))
    rw [Lib.parseUintM, if_pos hc, natFrom_cons]
    have hge := natFrom_ge l (10 * a + (c.toNat - 48))
    split
    · rw [if_neg (by omega)]
    · split
      · rw [if_neg (by omega)]
      · rw [show a * 10 + (c.toNat - 48) = 10 * a + (c.toNat - 48) by omega]
        exact parseUint_digits l _ (fun x hx => h x (by simp [hx])) (by omega)

/-- A sign or none, and digits. -/
def signed (neg : Bool) (l : List UInt8) : List UInt8 := if neg then 45 :: l else l
theorem parseInt_digits (neg : Bool) (l : List UInt8) (hne : l ≠ []) (hd : ∀ c ∈ l, isD c = true) :
    Lib.parseIntB 64 (signed neg l) = if natOf l ≤ 9223372036854775807 ∨ (neg = true ∧ natOf l = 9223372036854775808) then .ok (if neg then -(natOf l : Int) else natOf l) else .range := by
  have hU : Lib.parseUintB 64 l = if natOf l ≤ 18446744073709551615 then .ok (natOf l) else .range := by
    unfold Lib.parseUintB
    rw [if_neg hne]
    exact parseUint_digits l 0 hd (by omega)
  have p63 : (2 : Nat) ^ (64 - 1) = 9223372036854775808 := by decide
  cases neg with
  | true =>
    simp only [signed, if_true, Lib.parseIntB]
    have e45 : (45 : UInt8).toNat = 45 := rfl
    simp only [e45, or_true, if_true, hU]
    by_cases h1 : natOf l ≤ 18446744073709551615
    · simp only [h1, if_true, not_true_eq_false, false_and, if_false, true_and, p63]
      by_cases h2 : 9223372036854775808 < natOf l
      · rw [if_pos h2, if_neg (by omega)]
      · rw [if_neg h2, if_pos (by omega)]
    · simp only [h1, if_false]
      rw [if_neg (by omega)]
  | false =>
    cases l with
    | nil => exact absurd rfl hne
    | cons c r =>
      have hc := (isD_iff c).1 (hd c (by simp))
      simp only [signed, Bool.false_eq_true, if_false, Lib.parseIntB]
      rw [if_neg (by omega), hU]
      by_cases h1 : natOf (c :: r) ≤ 18446744073709551615
      · simp only [h1, if_true]
        have n45 : ¬ c.toNat = 45 := by omega
        simp only [n45, not_false_eq_true, true_and, p63, false_and, if_false, or_false]
        by_cases h2 : 9223372036854775808 ≤ natOf (c :: r)
        · rw [if_pos h2, if_neg (by omega)]
        · rw [if_neg h2, if_pos (by omega)]
      · simp only [h1, if_false]
        rw [if_neg (by omega)]

/-- What stands for a number: nothing that is empty, begins with a 0 that isn't all of it, or is -0. -/
def oddD (neg : Bool) (l : List UInt8) : Prop := l = [] ∨ (1 < l.length ∧ l.head? = some 48) ∨ (neg = true ∧ l = [48])
theorem itoa_signed (neg : Bool) (l : List UInt8) (hne : l ≠ []) (hd : ∀ c ∈ l, isD c = true) (ho : ¬ oddD neg l) : Lib.itoa (if neg then -(natOf l : Int) else natOf l) = signed neg l := by
  have hc : lead l ∨ l.length = 1 := by
    cases l with
    | nil => exact absurd rfl hne
    | cons c r =>
      by_cases h1 : r = []
      · exact .inr (by simp [h1])
      · refine .inl (fun x hx => ?_)
        simp at hx
        subst hx
        intro e
        exact ho (.inr (.inl ⟨by cases r with | nil => exact absurd rfl h1 | cons _ _ => simp, by
          have : c = 48 := UInt8.toNat_inj.1 (by rw [e]; rfl)
          simp [this]⟩))
  have hD := dec_natOf l hne hd hc
  cases neg with
  | false => simp only [Bool.false_eq_true, if_false, signed]; rw [Lib.itoa_nonneg, hD]
  | true =>
    have hp : 1 ≤ natOf l := by
      cases l with
      | nil => exact absurd rfl hne
      | cons c r =>
        have hcd := (isD_iff c).1 (hd c (by simp))
        by_cases h48 : c.toNat = 48
        · have ec : c = 48 := UInt8.toNat_inj.1 (by rw [h48]; rfl)
          exfalso
          cases r with
          | nil => exact ho (.inr (.inr ⟨rfl, by rw [ec]⟩))
          | cons d r => exact ho (.inr (.inl ⟨by simp, by simp [ec]⟩))
        · have := natOf_ge (l := r) (hd c (by simp)) h48
          have := Nat.one_le_pow r.length 10 (by omega)
          omega
    simp only [if_true, signed]; rw [Lib.itoa_neg _ hp, hD]
theorem itoa_odd (neg : Bool) (l : List UInt8) (hd : ∀ c ∈ l, isD c = true) (ho : oddD neg l) (v : Int) : Lib.itoa v ≠ signed neg l := by
  intro e
  have key : ∃ u, Lib.decDigits u = l ∧ (neg = true → 1 ≤ u) := by
    unfold Lib.itoa at e
    split at e
    · rename_i hv
      cases neg with
      | true => simp only [signed, if_true, List.cons.injEq, true_and] at e; exact ⟨_, e, fun _ => by omega⟩
      | false =>
        simp only [signed, Bool.false_eq_true, if_false] at e
        have := hd 45 (by rw [← e]; simp)
        exact absurd this (by decide)
    · rename_i hv
      cases neg with
      | true =>
        simp only [signed, if_true] at e
        have := dec_digits v.toNat 45 (by rw [e]; simp)
        exact absurd this (by decide)
      | false => simp only [signed, Bool.false_eq_true, if_false] at e; exact ⟨_, e, fun h => by cases h⟩
  obtain ⟨u, hu, hn⟩ := key
  rcases ho with h | ⟨h1, h2⟩ | ⟨h1, h2⟩
  · exact dec_ne u (by rw [hu, h])
  · by_cases hu0 : 1 ≤ u
    · exact dec_lead u hu0 48 (by rw [hu, h2]) rfl
    · have : u = 0 := by omega
      subst this
      rw [← hu] at h1
      rw [Lib.decDigits_one (by omega)] at h1
      simp at h1
  · exact dec_lead u (hn h1) 48 (by rw [hu, h2]; rfl) rfl

/-- The number of a sign and digits, as the document's own answer has it. -/
def refVal (neg : Bool) (l : List UInt8) : Option Int :=
  if l = [] ∨ 19 < l.length ∨ (1 < l.length ∧ l.head? = some 48) ∨ (neg = true ∧ l = [48]) then none
  else if 9223372036854775808 < natOf l ∨ (natOf l = 9223372036854775808 ∧ neg = false) then none
  else some (if neg then -(natOf l : Int) else natOf l)
theorem valOf_signed (neg : Bool) (l : List UInt8) (hd : ∀ c ∈ l, isD c = true) : valOf (signed neg l) = refVal neg l := by
  unfold refVal
  by_cases ho : oddD neg l
  · rw [if_pos (by rcases ho with h | h | h <;> simp [h])]
    unfold valOf
    split
    · rw [if_neg (itoa_odd neg l hd ho _)]
    · rfl
  · have hne : l ≠ [] := fun h => ho (.inl h)
    have h2 : ¬ (1 < l.length ∧ l.head? = some 48) := fun h => ho (.inr (.inl h))
    have h3 : ¬ (neg = true ∧ l = [48]) := fun h => ho (.inr (.inr h))
    have hv : valOf (signed neg l) = if natOf l ≤ 9223372036854775807 ∨ (neg = true ∧ natOf l = 9223372036854775808) then some (if neg then -(natOf l : Int) else natOf l) else none := by
      unfold valOf
      rw [parseInt_digits neg l hne hd]
      by_cases hb : natOf l ≤ 9223372036854775807 ∨ (neg = true ∧ natOf l = 9223372036854775808)
      · rw [if_pos hb, if_pos hb]
        simp only
        rw [if_pos (itoa_signed neg l hne hd ho)]
      · rw [if_neg hb, if_neg hb]
    rw [hv]
    by_cases h19 : 19 < l.length
    · have hbig : 10000000000000000000 ≤ natOf l := by
        cases l with
        | nil => exact absurd rfl hne
        | cons c r =>
          have h48 : c.toNat ≠ 48 := fun e => h2 ⟨by simp at h19 ⊢; omega, by
            have : c = 48 := UInt8.toNat_inj.1 (by rw [e]; rfl)
            simp [this]⟩
          have := natOf_ge (l := r) (hd c (by simp)) h48
          have hp : 10 ^ 19 ≤ 10 ^ r.length := Nat.pow_le_pow_right (by omega) (by simp at h19; omega)
          have : (10 : Nat) ^ 19 = 10000000000000000000 := by decide
          omega
      rw [if_neg (by omega), if_pos (.inr (.inl h19))]
    · rw [if_neg (c := l = [] ∨ 19 < l.length ∨ _ ∨ _) (by simp only [not_or]; exact ⟨hne, h19, h2, h3⟩)]
      have hC : (natOf l ≤ 9223372036854775807 ∨ (neg = true ∧ natOf l = 9223372036854775808)) ↔ ¬ (9223372036854775808 < natOf l ∨ (natOf l = 9223372036854775808 ∧ neg = false)) := by
        cases neg <;> simp <;> omega
      by_cases hD : 9223372036854775808 < natOf l ∨ (natOf l = 9223372036854775808 ∧ neg = false)
      · rw [if_neg (fun h => hC.1 h hD), if_pos hD]
      · rw [if_pos (hC.2 hD), if_neg hD]
end Go.Proofs.YtedhciolnekpaaaGreatDoor
