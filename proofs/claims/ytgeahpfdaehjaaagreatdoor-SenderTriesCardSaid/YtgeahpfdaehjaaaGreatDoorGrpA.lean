/-
  Layer 6 (wire), what is of no program: a number's bytes, a whole number's, a text's; and how bytes are read.
  A disk's parts, as a list by rising numbers: one that is laid, changed, taken away; what stays when it goes down; and the same list as a map's reading.
  The frame of every law's proof: where the walk returns true and turns nothing that was there, the row's own step follows, whatever the arguments' types.
  Memory: what a world keeps while one block of it (a reader's) is written and new blocks are laid.
  Rows of bytes of one's own, appended to by strings, by bytes that are laid for it and by bytes that lie elsewhere; blocks of another kind stay.
  What is left alone: all blocks but those of a set (Keeps); what becomes of a thing with blocks of its own (Mv8).
  What a disk's operations leave alone; and a disk in memory: its own block, its map, a row of bytes for each part, no two in one block.
  Two errors that are Codes held against each other.
  Layer 6 (wire): the small functions on numbers, the program's and the document's own, and the laws' pick.
  Layer 6 (wire): put, Number, Whole, Text: rows of bytes of their own.
  Layer 7 (batch), of no program: a batch's bytes, how they are read, and that both fit each other.
  Layer 7 (batch): a batch in memory: rows and their buckets, read wherever they lie, and owned.
-/
import Derived.Maps.Ext
import Derived.Maps.OwnSet
import Derived.Lib.Hide
import Derived.Test.YtgeahpfdaehjaaaGreatDoorRows
import Derived.WalkKit
import Derived.ProofKit
import Derived.OpenShut
import Derived.JoinedCond
import Derived.Laws.AppendOwn
import Derived.Deep.QuietTactic
import Derived.Lib.AppendStr
import Derived.Lib.OthersKept
import Derived.Laws.OwnMore
import Derived.Laws.MakeOwn
import Derived.Laws.BytesArg
import Derived.Lib.ConvBytes
import Derived.DataElems
import Derived.Maps.AppendAt
import Derived.LoopTactic
import Derived.BigQuiet
import Derived.Deep.LoopGhost
import Derived.Laws.BitsAllLaws
namespace Go.Proofs.YtgeahpfdaehjaaaGreatDoor

/-- A number's bytes: seven bits a byte, the lowest first. -/
def enc (n : Nat) : List UInt8 := if n < 128 then [n.toUInt8] else (n % 128 + 128).toUInt8 :: enc (n / 128)
termination_by n
decreasing_by omega
theorem enc_small {n : Nat} (h : n < 128) : enc n = [n.toUInt8] := by rw [enc, if_pos h]
theorem enc_great {n : Nat} (h : 128 ≤ n) : enc n = (n % 128 + 128).toUInt8 :: enc (n / 128) := by rw [enc, if_neg (by omega)]
theorem byte_toNat {n : Nat} (h : n < 256) : n.toUInt8.toNat = n := by
  rw [UInt8.toNat_ofNat']; omega

/-- The number that stands for a whole number; and back. -/
def foldN (n : Int) : Nat := if n < 0 then (2 * (-1 - n) + 1).toNat else (2 * n).toNat
def unfoldN (n : Nat) : Int := if n % 2 = 1 then -1 - (n / 2 : Nat) else (n / 2 : Nat)
theorem unfold_fold (n : Int) : unfoldN (foldN n) = n := by
  unfold unfoldN foldN
  split
  · rename_i h
    rw [if_pos (by omega)]; omega
  · rename_i h
    rw [if_neg (by omega)]; omega
theorem fold_lt {n : Int} (h0 : -9223372036854775808 ≤ n) (h1 : n ≤ 9223372036854775807) : foldN n < 18446744073709551616 := by
  unfold foldN; split <;> omega

/-- A number at the head of a row, from its byte i on; those ahead gave n. How many bytes it has, too. -/
def decF (i n : Nat) : List UInt8 → Option (Nat × Nat)
  | [] => none
  | c :: l =>
    if 10 ≤ i ∨ (i = 9 ∧ 1 < c.toNat) then none
    else if c.toNat < 128 then (if c.toNat = 0 ∧ 0 < i then none else some (n + c.toNat * 128 ^ i, i + 1))
    else decF (i + 1) (n + (c.toNat - 128) * 128 ^ i) l
def decStep (i n : Nat) (c : UInt8) (l : List UInt8) : Option (Nat × Nat) :=
  if 10 ≤ i ∨ (i = 9 ∧ 1 < c.toNat) then none
  else if c.toNat < 128 then (if c.toNat = 0 ∧ 0 < i then none else some (n + c.toNat * 128 ^ i, i + 1))
  else decF (i + 1) (n + (c.toNat - 128) * 128 ^ i) l
theorem dec_nil (i n : Nat) : decF i n [] = none := by rw [decF]
theorem dec_cons (i n : Nat) (c : UInt8) (l : List UInt8) : decF i n (c :: l) = decStep i n c l := by rw [decF, decStep]
theorem dec_at (i n : Nat) (l : List UInt8) (k : Nat) (c : UInt8) (h : l[k]? = some c) : decF i n (l.drop k) = decStep i n c (l.drop (k + 1)) := by
  obtain ⟨hk, hc⟩ := List.getElem?_eq_some_iff.1 h
  rw [List.drop_eq_getElem_cons hk, dec_cons, hc]

theorem pow_split (i : Nat) : 128 ^ (i + 1) = 128 ^ i * 128 := Nat.pow_succ ..
theorem dec_bound : ∀ (l : List UInt8) (i n a k : Nat), n < 128 ^ i → decF i n l = some (a, k) → a < 18446744073709551616 ∧ i < k ∧ k ≤ i + l.length ∧ k ≤ 10
  | [], i, n, a, k, _, h => by rw [dec_nil] at h; cases h
  | c :: l, i, n, a, k, hn, h => by
    rw [dec_cons] at h
    unfold decStep at h
    have hc := UInt8.toNat_lt c
    split at h
    · cases h
    rename_i h1
    have hi : i ≤ 9 := by omega
    split at h
    · rename_i h2
      split at h
      · cases h
      · cases h
        refine ⟨?_, by omega, by simp, by omega⟩
        rcases Nat.lt_or_ge i 9 with h9 | h9
        · have h128 : 128 ^ i ≤ 128 ^ 8 := Nat.pow_le_pow_right (by omega) (by omega)
          have : c.toNat * 128 ^ i ≤ 127 * 128 ^ i := Nat.mul_le_mul_right _ (by omega)
          have e8 : (128 : Nat) ^ 8 = 72057594037927936 := by decide
          omega
        · obtain rfl : i = 9 := by omega
          have e9 : (128 : Nat) ^ 9 = 9223372036854775808 := by decide
          rw [e9] at hn ⊢
          have : c.toNat ≤ 1 := by omega
          have : c.toNat * 9223372036854775808 ≤ 1 * 9223372036854775808 := Nat.mul_le_mul_right _ this
          omega
    · rename_i h2
      have hm : n + (c.toNat - 128) * 128 ^ i < 128 ^ (i + 1) := by
        have : (c.toNat - 128) * 128 ^ i ≤ 127 * 128 ^ i := Nat.mul_le_mul_right _ (by omega)
        rw [pow_split]; omega
      obtain ⟨b1, b2, b3, b4⟩ := dec_bound l (i + 1) _ a k hm h
      exact ⟨b1, by omega, by simp; omega, b4⟩

/-- What was written is read as it was. -/
theorem dec_enc (n : Nat) : ∀ (i a : Nat) (rest : List UInt8), i ≤ 9 → n * 128 ^ i < 18446744073709551616 → (0 < i → 0 < n) →
    decF i a (enc n ++ rest) = some (a + n * 128 ^ i, i + (enc n).length) := by
  induction n using Nat.strongRecOn with
  | ind n ih =>
    intro i a rest hi hn hp
    have e9 : (128 : Nat) ^ 9 = 9223372036854775808 := by decide
    rcases Nat.lt_or_ge n 128 with h | h
    · rw [enc_small h, List.singleton_append, dec_cons]
      unfold decStep
      rw [byte_toNat (by omega)]
      rw [if_neg, if_pos h, if_neg]
      · rfl
      · rintro ⟨h0, h1⟩
        have := hp h1
        omega
      · rintro (h1 | ⟨rfl, h1⟩)
        · omega
        · rw [e9] at hn
          omega
    · have hi8 : i ≤ 8 := by
        rcases Nat.lt_or_ge i 9 with h9 | h9
        · omega
        · obtain rfl : i = 9 := by omega
          rw [e9] at hn
          omega
      rw [enc_great h, List.cons_append, dec_cons]
      unfold decStep
      rw [byte_toNat (by omega), if_neg (by omega), if_neg (by omega)]
      have hs : n / 128 * 128 ^ (i + 1) ≤ n * 128 ^ i := by
        rw [pow_split, Nat.mul_comm (128 ^ i) 128, ← Nat.mul_assoc]
        exact Nat.mul_le_mul_right _ (by omega)
      rw [ih (n / 128) (by omega) (i + 1) _ rest (by omega) (by omega) (fun _ => by omega)]
      congr 1
      refine Prod.ext ?_ ?_
      · simp only
        have e1 : n / 128 * 128 ^ (i + 1) = (128 * (n / 128)) * 128 ^ i := by rw [pow_split, Nat.mul_comm (128 ^ i) 128, ← Nat.mul_assoc, Nat.mul_comm (n / 128) 128]
        rw [e1, show n % 128 + 128 - 128 = n % 128 by omega, Nat.add_assoc, ← Nat.add_mul, Nat.mod_add_div]
      · simp only [List.length_cons]; omega
theorem enc_length (n : Nat) (h : n < 18446744073709551616) : (enc n).length ≤ 10 := by
  have := dec_enc n 0 0 [] (by omega) (by simpa using h) (by omega)
  have := (dec_bound _ 0 0 _ _ (by omega) this).2.2.2
  omega
theorem enc_pos (n : Nat) : 0 < (enc n).length := by
  rcases Nat.lt_or_ge n 128 with h | h
  · rw [enc_small h]; simp
  · rw [enc_great h]; simp

/-- A text's bytes. -/
def encT (s : ByteArray) : List UInt8 := enc s.size ++ s.data.toList

/-- A reader of the row l: where it stands, and whether it is amiss. -/
structure Rs where
  at_ : Nat
  bad : Bool
def rsNum (l : List UInt8) (r : Rs) : Nat × Rs :=
  if r.bad then (0, r)
  else match decF 0 0 (l.drop r.at_) with
    | none => (0, ⟨r.at_, true⟩)
    | some (n, k) => (n, ⟨r.at_ + k, false⟩)
def rsText (l : List UInt8) (most : Int) (r : Rs) : List UInt8 × Rs :=
  if r.bad then ([], r)
  else match decF 0 0 (l.drop r.at_) with
    | none => ([], ⟨r.at_, true⟩)
    | some (n, k) => if most < 0 ∨ most < n ∨ l.length - (r.at_ + k) < n then ([], ⟨r.at_, true⟩) else ((l.drop (r.at_ + k)).take n, ⟨r.at_ + k + n, false⟩)
def rsEnd (l : List UInt8) (r : Rs) : Option Nat := if r.bad = false ∧ r.at_ = l.length then none else some r.at_
theorem rsNum_le {l : List UInt8} {r : Rs} (h : r.at_ ≤ l.length) : (rsNum l r).2.at_ ≤ l.length ∧ (rsNum l r).1 < 18446744073709551616 := by
  unfold rsNum
  split
  · exact ⟨h, by simp⟩
  · split
    · exact ⟨h, by simp⟩
    · rename_i n k hd
      obtain ⟨b1, _, b3, _⟩ := dec_bound _ 0 0 _ _ (by omega) hd
      rw [List.length_drop] at b3
      exact ⟨by simp only; omega, b1⟩
theorem rsText_le {l : List UInt8} {r : Rs} {most : Int} (h : r.at_ ≤ l.length) : (rsText l most r).2.at_ ≤ l.length := by
  unfold rsText
  split
  · exact h
  · split
    · exact h
    · rename_i n k hd
      obtain ⟨_, _, b3, _⟩ := dec_bound _ 0 0 _ _ (by omega) hd
      rw [List.length_drop] at b3
      split
      · exact h
      · simp only; omega
end Go.Proofs.YtgeahpfdaehjaaaGreatDoor
namespace Go.Proofs.YtgeahpfdaehjaaaGreatDoor
open Go.WideShapes
set_option linter.unusedVariables false

/-- A part: its number, its bytes, how many of them are synced. -/
structure Pt where
  n : Int
  b : List UInt8
  s : Nat

def used : List Pt → Nat
  | [] => 0
  | p :: r => p.b.length + used r
theorem used_cons (p : Pt) (r : List Pt) : used (p :: r) = p.b.length + used r := rfl
theorem used_app : ∀ (x y : List Pt), used (x ++ y) = used x + used y
  | [], y => by simp [used]
  | p :: r, y => by rw [List.cons_append, used_cons, used_cons, used_app r y]; omega
theorem used_mem {p : Pt} : ∀ {l : List Pt}, p ∈ l → p.b.length ≤ used l
  | q :: r, h => by
    rcases List.mem_cons.1 h with rfl | h
    · rw [used_cons]; omega
    · have := used_mem h; rw [used_cons]; omega

def Rises (l : List Pt) : Prop := l.Pairwise (fun p q => p.n < q.n)
structure Inv (rm : Nat) (l : List Pt) : Prop where
  rise : Rises l
  lo : ∀ p ∈ l, 0 ≤ p.n
  hi : ∀ p ∈ l, p.n ≤ 9223372036854775807
  syn : ∀ p ∈ l, p.s ≤ p.b.length
  fits : used l ≤ rm
  room : rm ≤ 65536

/-- The list is x, the part of this number, y; or x, y, and there is none such. -/
inductive Split (n : Int) : List Pt → Prop
  | has (x : List Pt) (q : Pt) (y : List Pt) (hn : q.n = n) (hx : ∀ p ∈ x, p.n < n) (hy : ∀ p ∈ y, n < p.n) : Split n (x ++ q :: y)
  | no (x y : List Pt) (hx : ∀ p ∈ x, p.n < n) (hy : ∀ p ∈ y, n < p.n) : Split n (x ++ y)
theorem all_cons {T : Pt → Prop} {q : Pt} {x : List Pt} (hq : T q) (h : ∀ p ∈ x, T p) : ∀ p ∈ q :: x, T p := fun p hp => by
  rcases List.mem_cons.1 hp with rfl | hp
  · exact hq
  · exact h p hp
theorem split (n : Int) : ∀ (l : List Pt), Rises l → Split n l
  | [], _ => .no [] [] (by simp) (by simp)
  | q :: r, h => by
    obtain ⟨h1, h2⟩ := List.pairwise_cons.1 h
    by_cases e : q.n = n
    · exact .has [] q r e (by simp) (fun p hp => by have := h1 p hp; omega)
    by_cases e' : n < q.n
    · exact .no [] (q :: r) (by simp) (fun p hp => by
        rcases List.mem_cons.1 hp with rfl | hp
        · exact e'
        · have := h1 p hp; omega)
    · have hq : q.n < n := by omega
      cases split n r h2 with
      | has x p y hn hx hy => exact .has (q :: x) p y hn (all_cons (T := fun p => p.n < n) hq hx) hy
      | no x y hx hy => exact .no (q :: x) y (all_cons (T := fun p => p.n < n) hq hx) hy

/-- The part of this number, there or not, becomes what f says. -/
def upd (n : Int) (f : Option Pt → Pt) : List Pt → List Pt
  | [] => [f none]
  | q :: r => if q.n = n then f (some q) :: r else if n < q.n then f none :: q :: r else q :: upd n f r
def del (n : Int) : List Pt → List Pt
  | [] => []
  | q :: r => if q.n = n then r else q :: del n r
def find (n : Int) : List Pt → Option Pt
  | [] => none
  | q :: r => if q.n = n then some q else find n r
theorem upd_has {n : Int} {f : Option Pt → Pt} {q : Pt} {y : List Pt} (hn : q.n = n) : ∀ {x : List Pt}, (∀ p ∈ x, p.n < n) → upd n f (x ++ q :: y) = x ++ f (some q) :: y
  | [], _ => by simp [upd, hn]
  | p :: r, h => by
    have h1 := h p (by simp)
    rw [List.cons_append, upd, if_neg (by omega), if_neg (by omega), upd_has hn (fun z hz => h z (by simp [hz]))]
    rfl
theorem upd_no {n : Int} {f : Option Pt → Pt} {y : List Pt} (hy : ∀ p ∈ y, n < p.n) : ∀ {x : List Pt}, (∀ p ∈ x, p.n < n) → upd n f (x ++ y) = x ++ f none :: y
  | [], _ => by
    cases y with
    | nil => rfl
    | cons q r => have := hy q (by simp); simp only [List.nil_append, upd]; rw [if_neg (by omega), if_pos this]
  | p :: r, h => by
    have h1 := h p (by simp)
    rw [List.cons_append, upd, if_neg (by omega), if_neg (by omega), upd_no hy (fun z hz => h z (by simp [hz]))]
    rfl
theorem del_has {n : Int} {q : Pt} {y : List Pt} (hn : q.n = n) : ∀ {x : List Pt}, (∀ p ∈ x, p.n < n) → del n (x ++ q :: y) = x ++ y
  | [], _ => by simp [del, hn]
  | p :: r, h => by
    have h1 := h p (by simp)
    rw [List.cons_append, del, if_neg (by omega), del_has hn (fun z hz => h z (by simp [hz]))]
    rfl
theorem find_has {n : Int} {q : Pt} {y : List Pt} (hn : q.n = n) : ∀ {x : List Pt}, (∀ p ∈ x, p.n < n) → find n (x ++ q :: y) = some q
  | [], _ => by simp [find, hn]
  | p :: r, h => by
    have h1 := h p (by simp)
    rw [List.cons_append, find, if_neg (by omega), find_has hn (fun z hz => h z (by simp [hz]))]
theorem find_none_of {n : Int} : ∀ {x : List Pt}, (∀ p ∈ x, p.n ≠ n) → find n x = none
  | [], _ => rfl
  | p :: r, h => by rw [find, if_neg (h p (by simp)), find_none_of (fun z hz => h z (by simp [hz]))]
theorem find_no {n : Int} {x y : List Pt} (hx : ∀ p ∈ x, p.n < n) (hy : ∀ p ∈ y, n < p.n) : find n (x ++ y) = none :=
  find_none_of fun p hp => by
    rcases List.mem_append.1 hp with h | h
    · have := hx p h; omega
    · have := hy p h; omega

theorem rises_mid {x y : List Pt} {q p : Pt} (h : Rises (x ++ q :: y)) (hn : p.n = q.n) : Rises (x ++ p :: y) := by
  obtain ⟨h1, h2, h3⟩ := List.pairwise_append.1 h
  obtain ⟨h4, h5⟩ := List.pairwise_cons.1 h2
  refine List.pairwise_append.2 ⟨h1, List.pairwise_cons.2 ⟨fun z hz => by have := h4 z hz; omega, h5⟩, fun a ha b hb => ?_⟩
  rcases List.mem_cons.1 hb with rfl | hb
  · have := h3 a ha q (by simp); omega
  · exact h3 a ha b (by simp [hb])
theorem rises_out {x y : List Pt} {q : Pt} (h : Rises (x ++ q :: y)) : Rises (x ++ y) := by
  obtain ⟨h1, h2, h3⟩ := List.pairwise_append.1 h
  exact List.pairwise_append.2 ⟨h1, (List.pairwise_cons.1 h2).2, fun a ha b hb => h3 a ha b (by simp [hb])⟩
theorem rises_in {x y : List Pt} {n : Int} {p : Pt} (h : Rises (x ++ y)) (hn : p.n = n) (hx : ∀ p ∈ x, p.n < n) (hy : ∀ p ∈ y, n < p.n) : Rises (x ++ p :: y) := by
  obtain ⟨h1, h2, h3⟩ := List.pairwise_append.1 h
  refine List.pairwise_append.2 ⟨h1, List.pairwise_cons.2 ⟨fun z hz => by have := hy z hz; omega, h2⟩, fun a ha b hb => ?_⟩
  rcases List.mem_cons.1 hb with rfl | hb
  · have := hx a ha; omega
  · exact h3 a ha b hb
theorem Rises.mid {x y : List Pt} {q : Pt} (h : Rises (x ++ q :: y)) : (∀ p ∈ x, p.n < q.n) ∧ (∀ p ∈ y, q.n < p.n) := by
  obtain ⟨h1, h2, h3⟩ := List.pairwise_append.1 h
  exact ⟨fun p hp => h3 p hp q (by simp), (List.pairwise_cons.1 h2).1⟩
theorem mid_all {x y : List Pt} {q : Pt} {T : Pt → Prop} (h : ∀ p ∈ x ++ y, T p) (hq : T q) : ∀ p ∈ x ++ q :: y, T p := fun p hp => by
  rcases List.mem_append.1 hp with h1 | h1
  · exact h p (List.mem_append.2 (.inl h1))
  · rcases List.mem_cons.1 h1 with rfl | h1
    · exact hq
    · exact h p (List.mem_append.2 (.inr h1))
theorem all_out {x y : List Pt} {q : Pt} {T : Pt → Prop} (h : ∀ p ∈ x ++ q :: y, T p) : ∀ p ∈ x ++ y, T p := fun p hp => by
  rcases List.mem_append.1 hp with h1 | h1
  · exact h p (List.mem_append.2 (.inl h1))
  · exact h p (List.mem_append.2 (.inr (by simp [h1])))
theorem Inv.mid {rm : Nat} {x y : List Pt} {q p : Pt} (h : Inv rm (x ++ q :: y)) (hn : p.n = q.n) (hs : p.s ≤ p.b.length) (hu : used x + p.b.length + used y ≤ rm) : Inv rm (x ++ p :: y) where
  rise := rises_mid h.rise hn
  lo := mid_all (all_out h.lo) (by rw [hn]; exact h.lo q (by simp))
  hi := mid_all (all_out h.hi) (by rw [hn]; exact h.hi q (by simp))
  syn := mid_all (all_out h.syn) hs
  fits := by rw [used_app, used_cons]; omega
  room := h.room
theorem Inv.out {rm : Nat} {x y : List Pt} {q : Pt} (h : Inv rm (x ++ q :: y)) : Inv rm (x ++ y) where
  rise := rises_out h.rise
  lo := all_out h.lo
  hi := all_out h.hi
  syn := all_out h.syn
  fits := by have := h.fits; rw [used_app, used_cons] at this; rw [used_app]; omega
  room := h.room
theorem Inv.into {rm : Nat} {x y : List Pt} {p : Pt} (h : Inv rm (x ++ y)) (hx : ∀ q ∈ x, q.n < p.n) (hy : ∀ q ∈ y, p.n < q.n) (h0 : 0 ≤ p.n) (h1 : p.n ≤ 9223372036854775807) (hs : p.s ≤ p.b.length) (hu : used x + p.b.length + used y ≤ rm) : Inv rm (x ++ p :: y) where
  rise := rises_in h.rise rfl hx hy
  lo := mid_all h.lo h0
  hi := mid_all h.hi h1
  syn := mid_all h.syn hs
  fits := by rw [used_app, used_cons]; omega
  room := h.room
theorem Inv.nil {rm : Nat} (h : rm ≤ 65536) : Inv rm [] := ⟨List.Pairwise.nil, by simp, by simp, by simp, by simp [used], h⟩

/-- What stays of it: the synced bytes, and of the others the first ones, as long as keep lasts. -/
def crash : Nat → List Pt → List Pt
  | _, [] => []
  | k, p :: r => ⟨p.n, p.b.take (p.s + min k (p.b.length - p.s)), p.s + min k (p.b.length - p.s)⟩ :: crash (k - min k (p.b.length - p.s)) r
theorem crash_n : ∀ (k : Nat) (l : List Pt), (crash k l).map (·.n) = l.map (·.n)
  | _, [] => rfl
  | k, p :: r => by rw [crash, List.map_cons, List.map_cons, crash_n]
theorem crash_length : ∀ (k : Nat) (l : List Pt), (crash k l).length = l.length
  | _, [] => rfl
  | k, p :: r => by rw [crash, List.length_cons, List.length_cons, crash_length]
theorem crash_used : ∀ (k : Nat) (l : List Pt), used (crash k l) ≤ used l
  | _, [] => Nat.le_refl _
  | k, p :: r => by
    have := crash_used (k - min k (p.b.length - p.s)) r
    rw [crash, used_cons, used_cons]
    simp only [List.length_take]
    omega
theorem crash_all {T : Int → Prop} : ∀ (k : Nat) (l : List Pt), (∀ p ∈ l, T p.n) → ∀ p ∈ crash k l, T p.n
  | _, [], h, p, hp => by cases hp
  | k, q :: r, h, p, hp => by
    rw [crash] at hp
    rcases List.mem_cons.1 hp with rfl | hp
    · exact h q (by simp)
    · exact crash_all _ r (fun z hz => h z (by simp [hz])) p hp
theorem crash_syn : ∀ (k : Nat) (l : List Pt), (∀ p ∈ l, p.s ≤ p.b.length) → ∀ p ∈ crash k l, p.s ≤ p.b.length
  | _, [], h, p, hp => by cases hp
  | k, q :: r, h, p, hp => by
    have hq := h q (by simp)
    rw [crash] at hp
    rcases List.mem_cons.1 hp with rfl | hp
    · simp only [List.length_take]; omega
    · exact crash_syn _ r (fun z hz => h z (by simp [hz])) p hp
theorem crash_rises : ∀ (k : Nat) (l : List Pt), Rises l → Rises (crash k l)
  | _, [], _ => List.Pairwise.nil
  | k, p :: r, h => by
    obtain ⟨h1, h2⟩ := List.pairwise_cons.1 h
    rw [crash]
    exact List.pairwise_cons.2 ⟨crash_all (T := fun n => p.n < n) _ r h1, crash_rises _ r h2⟩
theorem Inv.crash {rm : Nat} {l : List Pt} (h : Inv rm l) (k : Nat) : Inv rm (crash k l) where
  rise := crash_rises k l h.rise
  lo := crash_all (T := fun n => 0 ≤ n) k l h.lo
  hi := crash_all (T := fun n => n ≤ 9223372036854775807) k l h.hi
  syn := crash_syn k l h.syn
  fits := Nat.le_trans (crash_used k l) h.fits
  room := h.room

/-! ### the same as a map's reading -/
section
abbrev En := Lit × DataW Value
/-- Every value reads as itself. -/
def RV (v : Value) : Option (DataW Value × List MemPlace) := some (.held v, [])
def entV (p : Pt) (v : Value) : Value := .agg #[v, .int .i64 (p.s : Nat)]
def ent (x : Pt × Value) : En := (.int .i64 x.1.n, .held (entV x.1 x.2))
def ents (xs : List (Pt × Value)) : DataW Value := .map (xs.map ent)

theorem same_int (a b : Int) : (Lit.int .i64 a).sameKey (.int .i64 b) = decide (a = b) := by simp [Lit.sameKey]
theorem filter_all {n : Int} {xs : List (Pt × Value)} (h : ∀ x ∈ xs, x.1.n ≠ n) : (xs.map ent).filter (fun p => !p.1.sameKey (.int .i64 n)) = xs.map ent := by
  rw [List.filter_eq_self]
  intro p hp
  obtain ⟨x, hx, rfl⟩ := List.mem_map.1 hp
  simp [ent, same_int, h x hx]
theorem filter_mid {n : Int} {xs ys : List (Pt × Value)} {q : Pt × Value} (hn : q.1.n = n) (hx : ∀ x ∈ xs, x.1.n ≠ n) (hy : ∀ x ∈ ys, x.1.n ≠ n) :
    ((xs ++ q :: ys).map ent).filter (fun p => !p.1.sameKey (.int .i64 n)) = (xs ++ ys).map ent := by
  rw [List.map_append, List.map_cons, List.filter_append, List.filter_cons, if_neg (by simp [ent, same_int, hn]), filter_all hx, filter_all hy, List.map_append]
theorem insert_mid {p : Pt × Value} {ys : List (Pt × Value)} (hy : ∀ x ∈ ys, p.1.n < x.1.n) : ∀ {xs : List (Pt × Value)}, (∀ x ∈ xs, x.1.n < p.1.n) →
    DataW.insert (ent p) ((xs ++ ys).map ent) = (xs ++ p :: ys).map ent
  | [], _ => by
    cases ys with
    | nil => rfl
    | cons q r => have := hy q (by simp); simp [DataW.insert, ent, Lit.before, this]
  | q :: r, h => by
    have h1 := h q (by simp)
    rw [List.cons_append, List.map_cons, DataW.insert, if_neg (by simp [ent, Lit.before]; omega), insert_mid hy (fun z hz => h z (by simp [hz]))]
    rfl
variable {n : Int} {xs ys : List (Pt × Value)} {q p : Pt × Value}
theorem put_has (hq : q.1.n = n) (hp : p.1.n = n) (hx : ∀ x ∈ xs, x.1.n < n) (hy : ∀ x ∈ ys, n < x.1.n) : (ents (xs ++ q :: ys)).put (.int .i64 n) (.held (entV p.1 p.2)) = ents (xs ++ p :: ys) := by
  have h := insert_mid (p := p) (ys := ys) (fun x h => by rw [hp]; exact hy x h) (fun x h => by rw [hp]; exact hx x h)
  unfold ents DataW.put
  simp only
  rw [filter_mid hq (fun x h => by have := hx x h; omega) (fun x h => by have := hy x h; omega), ← h]
  simp [ent, hp]
theorem put_no (hp : p.1.n = n) (hx : ∀ x ∈ xs, x.1.n < n) (hy : ∀ x ∈ ys, n < x.1.n) : (ents (xs ++ ys)).put (.int .i64 n) (.held (entV p.1 p.2)) = ents (xs ++ p :: ys) := by
  have h := insert_mid (p := p) (ys := ys) (fun x h => by rw [hp]; exact hy x h) (fun x h => by rw [hp]; exact hx x h)
  unfold ents DataW.put
  simp only
  rw [filter_all (fun x h => by rcases List.mem_append.1 h with h | h; (have := hx x h; omega); (have := hy x h; omega)), ← h]
  simp [ent, hp]
theorem del_ents (hq : q.1.n = n) (hx : ∀ x ∈ xs, x.1.n < n) (hy : ∀ x ∈ ys, n < x.1.n) : (ents (xs ++ q :: ys)).del (.int .i64 n) = ents (xs ++ ys) := by
  unfold ents DataW.del
  simp only
  rw [filter_mid hq (fun x h => by have := hx x h; omega) (fun x h => by have := hy x h; omega)]
theorem has_mid (hq : q.1.n = n) : Maps.has (ents (xs ++ q :: ys)) (.int .i64 n) = true := by
  unfold ents
  rw [Maps.has_eq, List.any_eq_true]
  exact ⟨ent q, by simp, by simp [ent, same_int, hq]⟩
theorem has_no (hx : ∀ x ∈ xs, x.1.n ≠ n) : Maps.has (ents xs) (.int .i64 n) = false := by
  unfold ents
  rw [Maps.has_eq, List.any_eq_false]
  intro e he
  obtain ⟨x, h, rfl⟩ := List.mem_map.1 he
  simp [ent, same_int, hx x h]
theorem at_mid (hq : q.1.n = n) (hx : ∀ x ∈ xs, x.1.n < n) (z : DataW Value) : (ents (xs ++ q :: ys)).atKey (.int .i64 n) z = .held (entV q.1 q.2) := by
  have hf : ((xs ++ q :: ys).map ent).find? (fun p => p.1.sameKey (.int .i64 n)) = some (ent q) := by
    rw [List.map_append, List.find?_append, List.find?_eq_none.2, List.map_cons, List.find?_cons_of_pos (by simp [ent, same_int, hq])]
    · rfl
    · intro e he
      obtain ⟨x, h, rfl⟩ := List.mem_map.1 he
      have := hx x h
      simp [ent, same_int]; omega
  unfold ents DataW.atKey
  simp only [hf]
  rfl
theorem at_no (hx : ∀ x ∈ xs, x.1.n ≠ n) (z : DataW Value) : (ents xs).atKey (.int .i64 n) z = z := Maps.atKey_of_not_has (has_no hx) z
end
end Go.Proofs.YtgeahpfdaehjaaaGreatDoor
namespace Go.Proofs.YtgeahpfdaehjaaaGreatDoor
open Go.ChangeShapes Go.WideShapes Go.ChangeAt Go.RowKit

theorem own : ownKnob Tryz.prog.godebug = none := by kernel_rfl
theorem laidOut : laidOutB Tryz.prog = true := by kernel_rfl

/-- What a law's call must come to: true, and all that was there is as it was. -/
def Holds (W : World) (e : Ending) (W' : World) : Prop := e = .returned (.bool true) ∧ Below W.heap.size W W'

section
variable {H : Type} {enc : TypeId × Value → H} {P : Program}

theorem trodAll_stays (hl : laidOutB P = true) {W W' : World} (hb : Below W.heap.size W W') {sp : Nat → Bool} :
    ∀ {ts : List TypeId} {vs : List Value} {ds : List (DataW H)} {ps : List MemPlace},
      ts.all (fun t => P.readableRec t && decide (t < P.types.size)) = true →
      DataW.TrodAll enc P W 0 (fun _ => true) true ts vs ds ps → (∀ p ∈ ps, p.block < W.heap.size) → (∀ p ∈ ps, sp p.block = true) →
      DataW.TrodAll enc P W' 0 sp true ts vs ds ps
  | [], _, _, _, _, h, _, _ => by
    obtain ⟨rfl, rfl, rfl⟩ := trodAll_nil h
    exact rfl
  | t :: ts, _, _, _, ht, h, hlt, hs => by
    obtain ⟨v, vs, d, ds, p, q, rfl, rfl, rfl, h1, h2⟩ := trodAll_cons h
    simp only [List.all_cons, Bool.and_eq_true, decide_eq_true_eq] at ht
    refine ⟨p, q, ?_, trodAll_stays hl hb ht.2 h2 (fun x hx => hlt x (by simp [hx])) (fun x hx => hs x (by simp [hx])), rfl⟩
    exact WideElems.Trod_stays hl ht.1.1 ht.1.2 h1 (fun x hx => hb.same (hlt x (by simp [hx]))) (fun x hx => hs x (by simp [hx]))

theorem trodAll_length {w : World} {base : Nat} {sp : Nat → Bool} {held : Bool} :
    ∀ {ts : List TypeId} {vs : List Value} {ds : List (DataW H)} {ps : List MemPlace},
      DataW.TrodAll enc P w base sp held ts vs ds ps → ds.length = ts.length
  | [], _, _, _, h => by obtain ⟨rfl, rfl, rfl⟩ := trodAll_nil h; rfl
  | _ :: _, _, _, _, h => by
    obtain ⟨v, vs, d, ds, p, q, rfl, rfl, rfl, h1, h2⟩ := trodAll_cons h
    simp [trodAll_length h2]

theorem law_post {f : Func} {s : ChangeSpec} {tb : TypeId} (hl : laidOutB P = true)
    (hp : f.params.toList.all (fun t => P.readableRec t && decide (t < P.types.size)) = true) (hv : s.vars = [])
    (hs : ∀ ds : List (DataW H), ds.length = f.params.size → s.fn H ds = { results := [.lit (.bool true)], args := ds })
    (hr : f.resultTypes = #[tb]) (htb : P.underlying tb = some .bool)
    {W W' : World} {args : Array Value} {ds gs : List (DataW H)} {before : List MemPlace}
    (hW : DataW.Whole enc P f.params.toList s.vars false W args.toList ds gs before) (hb : Below W.heap.size W W') :
    s.post enc P f false true false false W args (.bool true) W' := by
  have hW' := hW
  have hlt := hW.lt
  obtain ⟨p, q, hA, hV, rfl, _, _⟩ := hW
  rw [hv] at hV
  obtain ⟨rfl, rfl⟩ := trodVars_none hV
  have hf := hs ds (by rw [trodAll_length hA]; simp)
  refine ⟨ds, [], _, [], p, [], hW', ?_, ?_, ?_, hb.frame _, fun h => by cases h⟩
  · rw [List.append_nil, hf, hr]
    exact trodAll_cons_mk (shut_bool htb _) trodAll_mk0
  · rw [List.append_nil, hf]
    exact trodAll_stays hl hb hp hA (fun x hx => hlt x (by simp [hx])) (fun x hx => by simpa using hlt x (by simp [hx]))
  · rw [List.append_nil, hf, hv]
    exact rfl
end

theorem law_contract {H : Type} {enc : TypeId × Value → H} {K : FuncId} {fn : Func} {s : ChangeSpec} {tb : TypeId}
    (hp : fn.params.toList.all (fun t => Tryz.prog.readableRec t && decide (t < Tryz.prog.types.size)) = true) (hv : s.vars = [])
    (hs : ∀ ds : List (DataW H), ds.length = fn.params.size → s.fn H ds = { results := [.lit (.bool true)], args := ds })
    (hr : fn.resultTypes = #[tb]) (htb : Tryz.prog.underlying tb = some .bool)
    {W : World} {args : Array Value} {ds gs : List (DataW H)} {before : List MemPlace}
    (hW : DataW.Whole enc Tryz.prog fn.params.toList s.vars false W args.toList ds gs before)
    (walk : Calls Tryz.prog K args W (Holds W)) :
    Calls Tryz.prog K args W fun e W' => ∃ v, e = .returned v ∧ s.post enc Tryz.prog fn false true false false W args v W' :=
  walk.mono fun _ _ ⟨he, hb⟩ => ⟨_, he, law_post laidOut hp hv hs hr htb hW hb⟩

theorem ret_bool {a b : Bool} (h : a = b) : Ending.returned (.bool a) = .returned (.bool b) := by rw [h]
theorem grown_below {W w' : World} (h : W = w') : Below W.heap.size W w' := by subst h; exact Below.refl _ _
end Go.Proofs.YtgeahpfdaehjaaaGreatDoor
namespace Go.Proofs.YtgeahpfdaehjaaaGreatDoor
open Go.RowKit
set_option linter.unusedVariables false

theorem heap_set_other {w : World} {a : Addr} {v : Value} {k : Nat} (h : k ≠ a.block) : (w.setCell a v).heap[k]? = w.heap[k]? := by
  simp only [World.setCell]
  rw [Array.getElem?_modify, if_neg (fun e => h e.symm)]
theorem heap_set_same {w : World} {b o : Nat} {v : Value} {c : Array Value} {t : TypeId} {f : Nat × Nat} (h : w.heap[b]? = some (.cells c t f)) :
    (w.setCell ⟨b, o, none⟩ v).heap[b]? = some (.cells (c.setIfInBounds o v) t f) := by
  simp only [World.setCell]
  rw [Array.getElem?_modify, if_pos rfl, h]
  rfl
theorem cell_of_block {w : World} {b o : Nat} {c : Array Value} {t : TypeId} {f : Nat × Nat} (h : w.heap[b]? = some (.cells c t f)) : w.cell? ⟨b, o, none⟩ = c[o]? := by
  simp [World.cell?, h]
theorem frozen_of_block {w : World} {b o : Nat} {c : Array Value} {t : TypeId} (h : w.heap[b]? = some (.cells c t (0, 0))) : w.frozen? ⟨b, o, none⟩ = false := by
  simp [World.frozen?, h]
theorem lt_of_block {w : World} {b : Nat} {o : Obj} (h : w.heap[b]? = some o) : b < w.heap.size := (Array.getElem?_eq_some_iff.1 h).1

theorem grown_refl (w : World) (r : Option Nat) : w.grownBy w r := ⟨rfl, rfl, rfl, Nat.le_refl _, fun _ _ _ => rfl⟩
theorem grown_trans {w w1 w2 : World} {r : Option Nat} (g : w.grownBy w1 r) (h : w1.grownBy w2 r) : w.grownBy w2 r :=
  ⟨h.os.trans g.os, h.tape.trans g.tape, h.output.trans g.output, Nat.le_trans g.size h.size, fun k hk hr => (h.block k (Nat.lt_of_lt_of_le hk g.size) hr).trans (g.block k hk hr)⟩
theorem grown_of_below {w w1 w2 : World} {r : Option Nat} {B : Nat} (g : w.grownBy w1 r) (h : Below B w1 w2) (hB : w.heap.size ≤ B) : w.grownBy w2 r :=
  ⟨h.os.trans g.os, h.tape.trans g.tape, h.output.trans g.output, Nat.le_trans g.size h.size, fun k hk hr => (h.block k (Nat.lt_of_lt_of_le hk hB)).trans (g.block k hk hr)⟩
theorem grown_set {w w1 : World} {r : Option Nat} (g : w.grownBy w1 r) (a : Addr) (v : Value) (h : some a.block = r ∨ w.heap.size ≤ a.block) : w.grownBy (w1.setCell a v) r :=
  ⟨g.os, g.tape, g.output, by rw [World.size_setCell]; exact g.size, fun k hk hr => by
    rw [heap_set_other]
    · exact g.block k hk hr
    · intro e
      subst e
      rcases h with h | h
      · exact hr h
      · omega⟩
theorem grown_drew {w w1 : World} {r : Option Nat} (g : w.grownBy w1 r) (n : Nat) : w.grownBy (w1.drewN n) r :=
  ⟨g.os, g.tape, g.output, g.size, fun k hk hr => g.block k hk hr⟩
theorem grown_alloc {w w1 : World} {r : Option Nat} (g : w.grownBy w1 r) (o : Obj) : w.grownBy (w1.alloc o) r :=
  grown_trans g (World.grownBy_alloc _ _ _)
theorem grown_less {w w0 w1 : World} {r : Option Nat} (h0 : w0.grownBy w none) (g : w.grownBy w1 r) (h : ∀ k, r = some k → w0.heap.size ≤ k) : w0.grownBy w1 none :=
  ⟨g.os.trans h0.os, g.tape.trans h0.tape, g.output.trans h0.output, Nat.le_trans h0.size g.size, fun k hk _ => (g.block k (Nat.lt_of_lt_of_le hk h0.size) (fun e => by have := h k e.symm; omega)).trans (h0.block k hk (by simp))⟩
theorem below_of_grown {w w1 : World} (g : w.grownBy w1 none) : Below w.heap.size w w1 := ⟨g.os, g.tape, g.output, g.size, fun k hk => g.block k hk (by simp)⟩
theorem grown_of {w w1 : World} {r : Option Nat} (h : Below w.heap.size w w1) : w.grownBy w1 r := grown_of_below (grown_refl _ _) h (Nat.le_refl _)

/-- The reader in block b stands at place k of the text s. -/
def Rd (w : World) (b : Nat) (s : ByteArray) (k : Nat) : Prop := w.heap[b]? = some (.cells #[.string s, .int .i64 k] 228 (0, 0))
section
variable {w w' : World} {b : Nat} {s : ByteArray} {k : Nat}
theorem Rd.c0 (h : Rd w b s k) : w.cell? ⟨b, 0, none⟩ = some (.string s) := cell_of_block h
theorem Rd.c1 (h : Rd w b s k) : w.cell? ⟨b, 1, none⟩ = some (.int .i64 k) := cell_of_block h
theorem Rd.f1 (h : Rd w b s k) : w.frozen? ⟨b, 1, none⟩ = false := frozen_of_block h
theorem Rd.set (h : Rd w b s k) (j : Nat) : Rd (w.setCell ⟨b, 1, none⟩ (.int .i64 j)) b s j := heap_set_same h
theorem Rd.drew (h : Rd w b s k) (n : Nat) : Rd (w.drewN n) b s k := h
theorem Rd.other (h : Rd w b s k) (a : Addr) (v : Value) (ha : b ≠ a.block) : Rd (w.setCell a v) b s k := by
  unfold Rd; rw [heap_set_other ha]; exact h
theorem Rd.below (h : Rd w b s k) (hb : Below w.heap.size w w') : Rd w' b s k := by
  unfold Rd; rw [hb.block b (lt_of_block h)]; exact h
theorem Rd.alloc (h : Rd w b s k) (o : Obj) : Rd (w.alloc o) b s k := by
  unfold Rd; rw [(World.grownBy_alloc w o none).block b (lt_of_block h) (by simp)]; exact h
theorem Rd.lt (h : Rd w b s k) : b < w.heap.size := lt_of_block h
end

/-- What becomes of the world while a reader's method runs. -/
structure Mv (w : World) (b : Nat) (s : ByteArray) (k : Nat) (w' : World) : Prop where
  grown : w.grownBy w' (some b)
  rd : Rd w' b s k
section
variable {w w1 w2 : World} {b : Nat} {s : ByteArray} {k j : Nat}
theorem Mv.drew (h : Mv w b s k w1) (n : Nat) : Mv w b s k (w1.drewN n) := ⟨grown_drew h.grown n, h.rd⟩
theorem Mv.trans (h : Mv w b s k w1) (g : Mv w1 b s j w2) : Mv w b s j w2 := ⟨grown_trans h.grown g.grown, g.rd⟩
theorem Mv.alloc (h : Mv w b s k w1) (o : Obj) : Mv w b s k (w1.alloc o) := ⟨grown_alloc h.grown o, h.rd.alloc o⟩
theorem Mv.drew1 (h : Mv w b s k w1) : Mv w b s k w1.drew := ⟨⟨h.grown.os, h.grown.tape, h.grown.output, h.grown.size, h.grown.block⟩, h.rd⟩
theorem Mv.put (h : Mv w b s k w1) (a : Addr) (v : Value) (hb : b < w.heap.size) (ha : w.heap.size ≤ a.block) : Mv w b s k (w1.setCell a v) :=
  ⟨grown_set h.grown a v (Or.inr ha), h.rd.other a v (by omega)⟩
theorem Mv.below (h : Mv w b s k w1) (g : Below w.heap.size w1 w2) (hb : b < w.heap.size) : Mv w b s k w2 :=
  ⟨grown_of_below h.grown g (Nat.le_refl _), by unfold Rd; rw [g.block b hb]; exact h.rd⟩
end
end Go.Proofs.YtgeahpfdaehjaaaGreatDoor
namespace Go.Proofs.YtgeahpfdaehjaaaGreatDoor
open Go.ChangeShapes Go.WideShapes Go.ChangeAt Go.RowKit
set_option linter.unusedVariables false

theorem infoB : (Tryz.prog.info? 5).map (fun i => (i.zero, i.size, i.bytes)) = some (some (.int .u8 0), 1, 1) := by kernel_rfl
theorem info_parts {e : TypeId} {z : Value} {b : Nat} (h : (Tryz.prog.info? e).map (fun i => (i.zero, i.size, i.bytes)) = some (some z, 1, b)) :
    ∃ i, Tryz.prog.info? e = some i ∧ i.zero = some z ∧ i.size = 1 ∧ i.bytes = b := by
  cases hi : Tryz.prog.info? e with
  | none => rw [hi] at h; cases h
  | some i =>
    rw [hi] at h
    simp at h
    exact ⟨i, rfl, h.1, h.2.1, h.2.2⟩
/-- v is a row of bytes of one's own (or nil), and holds l. -/
def OB (w : World) (B : Nat) (v : Value) (l : List UInt8) : Prop := w.ownsRow B 5 1 v l.length (Lib.byteCells l)
/-- What becomes of a world while such a row grows. -/
structure Gr (B : Nat) (w w' : World) : Prop where
  below : Below B w w'
  kept : Lib.OthersKept 5 none w w'
theorem Gr.refl (B : Nat) (w : World) : Gr B w w := ⟨Below.refl _ _, Lib.OthersKept.refl _ _ _⟩
theorem Gr.trans {B : Nat} {w w1 w2 : World} (h : Gr B w w1) (k : Gr B w1 w2) : Gr B w w2 := ⟨h.below.trans k.below, h.kept.trans k.kept⟩
theorem Gr.alloc {B : Nat} {w w1 : World} (h : Gr B w w1) (hB : B ≤ w1.heap.size) (o : Obj) : Gr B w (w1.alloc o) := ⟨h.below.alloc hB _, h.kept.alloc _⟩
theorem Gr.size {B : Nat} {w w1 : World} (h : Gr B w w1) : w.heap.size ≤ w1.heap.size := h.below.size
theorem OB.nil (w : World) (B : Nat) : OB w B (.slice none 0 0) [] := World.ownsRow_nil _ _ _ _
theorem OB.alloc {w : World} {B : Nat} {v : Value} {l : List UInt8} (h : OB w B v l) (o : Obj) : OB (w.alloc o) B v l := World.ownsRow.alloc h o
theorem OB.kind {w : World} {B : Nat} {v : Value} {l : List UInt8} (h : OB w B v l) : ∀ g, v.ownBlock = some g → ∃ c fz, w.heap[g]? = some (.cells c 5 fz) := by
  intro g hg
  rcases h.2 with ⟨rfl, _⟩ | ⟨g', cap, cur, rfl, _, hc, _⟩
  · cases hg
  · simp only [Value.ownBlock, Option.some.injEq] at hg
    subst hg
    exact ⟨_, _, hc⟩
theorem OB.grown {w w' : World} {B : Nat} {v : Value} {l : List UInt8} (h : OB w B v l) (hB : B ≤ w.heap.size) (g : w.grownBy w' v.ownBlock) : Gr B w w' :=
  ⟨⟨g.os, g.tape, g.output, g.size, fun k hk => g.block k (by omega) (fun e => by have := World.ownsRow.lt h k e.symm; omega)⟩,
   fun k o hk _ ho => by
      rw [g.block k (lt_of_block hk) (fun e => by obtain ⟨c, fz, hc⟩ := h.kind k e.symm; rw [hk] at hc; cases hc; exact ho _ _ rfl)]
      exact hk⟩
theorem byteCells_app (x y : List UInt8) : Lib.byteCells (x ++ y) = Lib.byteCells x ++ Lib.byteCells y := by unfold Lib.byteCells; rw [List.map_append]
theorem ob_str {w : World} {B : Nat} {v : Value} {l : List UInt8} (h : OB w B v l) (s : ByteArray) (hl : l.length + s.size ≤ 1000000) (hB : B ≤ w.heap.size) :
    ∃ v' w', (Builtin.append_ #[64, 9] 64 #[v, .string s]).run Tryz.prog w = .ok v' w' ∧ OB w' B v' (l ++ s.data.toList) ∧ Gr B w w' := by
  obtain ⟨i, hi, hz0, hz1, hz2⟩ := info_parts infoB
  obtain ⟨v', w', hrun, hown, hgr, _⟩ := Lib.run_append_own_string (P := Tryz.prog) w B 64 9 64 5 i Tryz.underlying64 Tryz.underlying9 hi hz0 hz1 hz2 v _ _ h s (by unfold maxLen; omega) (by omega) hB
  refine ⟨v', w', hrun, ?_, h.grown hB hgr⟩
  unfold OB
  rw [byteCells_app, List.length_append, show s.data.toList.length = s.size by simp]
  exact hown
theorem ob_lit {w : World} {B : Nat} {v : Value} {l : List UInt8} (h : OB w B v l) (ys : List UInt8) (hl : l.length + ys.length ≤ 1000000) (hB : B ≤ w.heap.size) :
    ∃ v' w', (Builtin.append_ #[64, 64] 64 #[v, .slice (some ⟨w.heap.size, 0, none⟩) ys.length ys.length]).run Tryz.prog (w.alloc (.cells (Lib.byteCells ys).toArray 5)) = .ok v' w' ∧ OB w' B v' (l ++ ys) ∧ Gr B w w' := by
  obtain ⟨i, hi, hz0, hz1, hz2⟩ := info_parts infoB
  have hB' : B ≤ (w.alloc (.cells (Lib.byteCells ys).toArray 5)).heap.size := by simp; omega
  obtain ⟨v', w', hrun, hown, hgr, _⟩ := run_append_own (P := Tryz.prog) (w.alloc (.cells (Lib.byteCells ys).toArray 5)) B 64 64 5 i (.int .u8 0) 1 1 Tryz.underlying64 hi hz0 hz1 hz2 rfl (by omega) _ _ _ (h.alloc _) ⟨w.heap.size, 0, none⟩ ys.length ys.length (Lib.byteCells ys) (by simp [Lib.byteCells_length])
    (fun j u hu => by
      rw [show (⟨w.heap.size, 0, none⟩ : Addr).add j = ⟨w.heap.size, j, none⟩ by simp [Addr.add_lit], cell_of_block (heap_alloc_new w _)]
      simpa using hu)
    (fun u hu => by unfold Lib.byteCells at hu; obtain ⟨x, _, rfl⟩ := List.mem_map.1 hu; rfl) (by unfold maxLen; omega) (by omega) hB'
  refine ⟨v', w', hrun, ?_, ((Gr.refl B w).alloc hB _).trans ((h.alloc _).grown hB' hgr)⟩
  unfold OB
  rw [byteCells_app, List.length_append]
  exact hown
theorem OB.conv {w : World} {B : Nat} {v : Value} {l : List UInt8} (h : OB w B v l) (hl : l ≠ []) : (convert 64 9 v).run Tryz.prog w = .ok (.string ⟨l.toArray⟩) w := by
  rcases h.2 with ⟨rfl, e⟩ | ⟨g, cap, cur, rfl, _, hc, _, _, _, ht⟩
  · exact absurd (List.length_eq_zero_iff.1 e) hl
  · refine run_convert_bytes_back (P := Tryz.prog) w 64 9 5 ⟨g, 0, none⟩ cap l Tryz.underlying64 Tryz.underlying5 Tryz.underlying9 (fun j hj => ?_)
    exact World.ownsRow.cells h (g := g) rfl j _ (by unfold Lib.byteCells; rw [List.getElem?_map, List.getElem?_eq_getElem hj]; rfl)
theorem wpList_append_two {P : Program} {w w' : World} {ops : Array Oper} {rest : List Oper} {o : Oper} {a : Act} {Q : Exit → Act → World → Prop} (hgd : Region.wanted o (yielded ops a.tmps) = true) (s x : Operand) (t u : TypeId)
    (ho : o.op = .call { callee := .builtin .append, args := #[s, x], argTypes := #[t, u] }) (vs vx v' : Value) (hs : a.eval s = vs) (hx : a.eval x = vx)
    (hrun : (Builtin.append_ #[t, u] o.type #[vs, vx]).run P w = .ok v' w') (h : wpList P ops Q rest (a.put o.dst v') w') : wpList P ops Q (o :: rest) a w := by
  refine wpList_step fun K hK => ?_
  rw [if_pos hgd]
  unfold Oper.wp
  simp [execOp, ho, resolve, invoke, builtin, hs, hx, hrun, Result.andThen]
  exact hK _ _ h
theorem Gr.block {B : Nat} {w w' : World} (g : Gr B w w') {k : Nat} {o : Obj} (h : w.heap[k]? = some o) (ho : ∀ c fz, o ≠ .cells c 5 fz) : w'.heap[k]? = some o := g.kept k o h (by simp) ho
/-- A slice of bytes, nil or not, that reads as this list. -/
structure RdS (w : World) (A : Option Addr) (cap : Nat) (l : List UInt8) : Prop where
  le : l.length ≤ cap
  nn : A = none → cap = 0
  rd : ∀ ad, A = some ad → ∀ i c, l[i]? = some c → w.cell? (ad.add i) = some (.int .u8 c.toNat)
theorem RdS.nil (w : World) : RdS w none 0 [] := ⟨Nat.le_refl _, fun _ => rfl, fun _ h => by cases h⟩
theorem RdS.below {w w' : World} {B : Nat} {A : Option Addr} {cap : Nat} {l : List UInt8} (h : RdS w A cap l) (hb : Below B w w') (hB : w.heap.size ≤ B) : RdS w' A cap l :=
  ⟨h.le, h.nn, fun ad ha i c hc => by
    have h1 := h.rd ad ha i c hc
    have h2 := World.block_lt_of_cell? w _ h1
    rw [hb.cell (by omega)]; exact h1⟩
theorem RdS.drew {w : World} {A : Option Addr} {cap : Nat} {l : List UInt8} (h : RdS w A cap l) (n : Nat) : RdS (w.drewN n) A cap l := ⟨h.le, h.nn, h.rd⟩
theorem RdS.alloc {w : World} {A : Option Addr} {cap : Nat} {l : List UInt8} (h : RdS w A cap l) (o : Obj) : RdS (w.alloc o) A cap l :=
  h.below ((Below.refl w.heap.size w).alloc (Nat.le_refl _) o) (Nat.le_refl _)
theorem RdS.some_of {w : World} {A : Option Addr} {cap : Nat} {l : List UInt8} (h : RdS w A cap l) (hl : 0 < l.length) : ∃ ad, A = some ad := by
  cases A with
  | none => have := h.nn rfl; have := h.le; omega
  | some ad => exact ⟨ad, rfl⟩
theorem OB.rd {w : World} {B : Nat} {v : Value} {l : List UInt8} (h : OB w B v l) : ∃ A cap, v = .slice A l.length cap ∧ RdS w A cap l := by
  rcases h.2 with ⟨rfl, e⟩ | ⟨g, cap, cur, rfl, _, hc, hn, _, _, ht⟩
  · obtain rfl := List.length_eq_zero_iff.1 e
    exact ⟨none, 0, rfl, RdS.nil w⟩
  · refine ⟨some ⟨g, 0, none⟩, cap, rfl, hn, (fun e => by cases e), fun ad ha i c hi => ?_⟩
    cases ha
    exact World.ownsRow.cells h (g := g) rfl i _ (by unfold Lib.byteCells; rw [List.getElem?_map, hi]; rfl)
theorem ob_row {w : World} {B : Nat} {v : Value} {l : List UInt8} (h : OB w B v l) {A : Option Addr} {cap : Nat} {y : List UInt8} (hr : RdS w A cap y) (hl : l.length + y.length ≤ 1000000) (hB : B ≤ w.heap.size) :
    ∃ v' w', (Builtin.append_ #[64, 64] 64 #[v, .slice A y.length cap]).run Tryz.prog w = .ok v' w' ∧ OB w' B v' (l ++ y) ∧ Gr B w w' := by
  obtain ⟨i, hi, hz0, hz1, hz2⟩ := info_parts infoB
  cases A with
  | none =>
    obtain rfl := hr.nn rfl
    have h0 : y = [] := List.length_eq_zero_iff.1 (by have := hr.le; omega)
    subst h0
    exact ⟨v, w, run_append_owned_none (P := Tryz.prog) (w := w) B 64 64 5 i 1 Tryz.underlying64 hi _ _ _ h, by simpa using h, Gr.refl _ _⟩
  | some ad =>
    obtain ⟨v', w', hrun, hown, hgr, _⟩ := run_append_own (P := Tryz.prog) w B 64 64 5 i (.int .u8 0) 1 1 Tryz.underlying64 hi hz0 hz1 hz2 rfl (by omega) _ _ _ h ad y.length cap (Lib.byteCells y) (by simp [Lib.byteCells_length])
      (fun j u hu => by
        unfold Lib.byteCells at hu
        rw [List.getElem?_map] at hu
        cases hj : y[j]? with
        | none => rw [hj] at hu; cases hu
        | some c => rw [hj] at hu; cases hu; exact hr.rd ad rfl j c hj)
      (fun u hu => by unfold Lib.byteCells at hu; obtain ⟨x, _, rfl⟩ := List.mem_map.1 hu; rfl) (by unfold maxLen; omega) (by omega) hB
    refine ⟨v', w', hrun, ?_, h.grown hB hgr⟩
    unfold OB
    rw [byteCells_app, List.length_append]
    exact hown
theorem ob_make {w : World} {B : Nat} (n : Nat) (hn : n ≤ 1000000) (hB : B ≤ w.heap.size) :
    ∃ v' w', (Instr.makeSlice 64 (.int .i64 0) (.int .i64 (n : Int))).run Tryz.prog w = .ok v' w' ∧ OB w' B v' [] ∧ Gr B w w' := by
  obtain ⟨i, hi, hz0, hz1, hz2⟩ := info_parts infoB
  obtain ⟨w', hrun, hown, hgr⟩ := run_make_own (P := Tryz.prog) w B 64 5 i (.int .u8 0) 1 Tryz.underlying64 hi hz0 hz1 .i64 .i64 n (by rw [hz2]; omega) (by unfold maxLen; omega) hB
  exact ⟨_, w', hrun, hown, ⟨hgr.os, hgr.tape, hgr.output, hgr.size, fun k hk => hgr.block k (by omega) (by simp)⟩, fun k o hk _ _ => by rw [hgr.block k (lt_of_block hk) (by simp)]; exact hk⟩
theorem rd_conv {w : World} {A : Option Addr} {cap : Nat} {l : List UInt8} (h : RdS w A cap l) : (convert 64 9 (.slice A l.length cap)).run Tryz.prog w = .ok (.string ⟨l.toArray⟩) w := by
  cases A with
  | none =>
    have h0 : l = [] := List.length_eq_zero_iff.1 (by have := h.nn rfl; have := h.le; omega)
    subst h0
    exact run_convert_bytes_nil (P := Tryz.prog) w 64 5 Tryz.underlying64 Tryz.underlying5 _ _ _ Tryz.underlying9
  | some ad =>
    exact run_convert_bytes_back (P := Tryz.prog) w 64 9 5 ad cap l Tryz.underlying64 Tryz.underlying5 Tryz.underlying9 (fun j hj => h.rd ad rfl j _ (List.getElem?_eq_getElem hj))
theorem elemB : Tryz.prog.elem 64 = 5 := by kernel_rfl
theorem underB : Tryz.prog.underlying 64 = some (.slice (Tryz.prog.elem 64)) := by rw [elemB]; exact Tryz.underlying64
/-- 's[k:]'. -/
theorem slice_from (A : Option Addr) (cap : Nat) (l : List UInt8) (k : Nat) (hk : k ≤ l.length) (hle : l.length ≤ cap) (hnone : A = none → cap = 0) :
    ∃ A', (∀ w, (Instr.slice 64 (.slice A l.length cap) (some (.int .i64 (k : Int))) none none).run Tryz.prog w = .ok (.slice A' (l.drop k).length (cap - k)) w) ∧
      ∀ w, RdS w A cap l → RdS w A' (cap - k) (l.drop k) := by
  refine ⟨if cap = k then A else A.map (·.add k), fun w => ?_, fun w h => ?_⟩
  · obtain ⟨i, hi, hz0, hz1, hz2⟩ := info_parts infoB
    rw [run_slice_l w 64 A l.length cap underB _ _ (by omega) (by omega)]
    have hs : (sizeOf (Tryz.prog.elem 64)).run Tryz.prog w = .ok 1 w := by
      rw [elemB]
      simp [sizeOf, typeInfo, hi, hz1, Result.andThen]
    rw [hs]
    simp [Result.andThen, sliced]
  · refine ⟨by rw [List.length_drop]; have := h.le; omega, fun e => ?_, fun ad ha i c hi => ?_⟩
    · split at e
      · omega
      · cases A with
        | none => have := h.nn rfl; omega
        | some a => cases e
    · rw [List.getElem?_drop] at hi
      have hlt := (List.getElem?_eq_some_iff.1 hi).1
      split at ha
      · have := h.le; omega
      · cases A with
        | none => cases ha
        | some a =>
          cases ha
          rw [Addr.add_add]
          exact h.rd a rfl (k + i) c hi
/-- '[]byte(s)'. -/
theorem str_row (w : World) (s : ByteArray) (hs : s.size ≤ 1000000) :
    ∃ cap w', (convert 9 64 (.string s)).run Tryz.prog w = .ok (.slice (some ⟨w.heap.size, 0, none⟩) s.size cap) w' ∧ RdS w' (some ⟨w.heap.size, 0, none⟩) cap s.data.toList ∧ Below w.heap.size w w' := by
  have hl : s.data.toList.length = s.size := by simp
  refine ⟨_, _, Lib.run_convert_string_bytes (P := Tryz.prog) w 9 64 5 s Tryz.underlying9 Tryz.underlying64 Tryz.underlying5, ⟨by rw [hl]; exact grownCap_ge _ _ _ _, (fun e => by cases e), fun ad ha i c hi => ?_⟩, ⟨by simp [Lib.bytesWorld, World.freeze, World.alloc, World.drew, -World.alloc_eq, -World.drew_eq], by simp [Lib.bytesWorld, World.freeze, World.alloc, World.drew, -World.alloc_eq, -World.drew_eq], by simp [Lib.bytesWorld, World.freeze, World.alloc, World.drew, -World.alloc_eq, -World.drew_eq], by rw [Lib.bytesWorld_size]; omega, fun k hk => Lib.bytesWorld_at_old w _ s k hk⟩⟩
  cases ha
  have hlt := (List.getElem?_eq_some_iff.1 hi).1
  rw [Addr.add_lit, Nat.zero_add, Lib.bytesWorld_cell w _ s i (by omega)]
  simp only [List.getD, hi, Option.getD_some]
theorem OB.below {w w' : World} {B : Nat} {v : Value} {l : List UInt8} (h : OB w B v l) (hb : Below w.heap.size w w') : OB w' B v l :=
  World.ownsRow.kept (row := none) h (grown_of hb) (by cases hv : v.ownBlock <;> simp)
theorem slice_to (A : Option Addr) (len cap k : Nat) (hk : k ≤ cap) (hnone : A = none → cap = 0) (w : World) :
    (Instr.slice 64 (.slice A len cap) none (some (.int .i64 (k : Int))) none).run Tryz.prog w = .ok (.slice A k cap) w := by
  obtain ⟨i, hi, hz0, hz1, hz2⟩ := info_parts infoB
  rw [run_slice_h w 64 A len cap underB _ _ (by omega) (by omega)]
  have hs : (sizeOf (Tryz.prog.elem 64)).run Tryz.prog w = .ok 1 w := by
    rw [elemB]
    simp [sizeOf, typeInfo, hi, hz1, Result.andThen]
  rw [hs]
  cases A with
  | none => simp [Result.andThen, sliced]
  | some a => simp [Result.andThen, sliced, Addr.add]
end Go.Proofs.YtgeahpfdaehjaaaGreatDoor
namespace Go.Proofs.YtgeahpfdaehjaaaGreatDoor
open Go.ChangeShapes Go.WideShapes Go.ChangeAt Go.RowKit
set_option linter.unusedVariables false

/-- All blocks that were there stay, but those of F. -/
structure Keeps (F : Nat → Prop) (w w' : World) : Prop where
  os : w'.os = w.os
  tape : w'.tape = w.tape
  output : w'.output = w.output
  size : w.heap.size ≤ w'.heap.size
  block : ∀ k, k < w.heap.size → ¬ F k → w'.heap[k]? = w.heap[k]?
section
variable {F G : Nat → Prop} {w w1 w2 w' : World}
theorem Keeps.refl (F : Nat → Prop) (w : World) : Keeps F w w := ⟨rfl, rfl, rfl, Nat.le_refl _, fun _ _ _ => rfl⟩
theorem Keeps.trans (h : Keeps F w w1) (k : Keeps G w1 w2) (hG : ∀ g, G g → F g ∨ w.heap.size ≤ g) : Keeps F w w2 :=
  ⟨k.os.trans h.os, k.tape.trans h.tape, k.output.trans h.output, Nat.le_trans h.size k.size, fun i hi hF => by
    rw [k.block i (Nat.lt_of_lt_of_le hi h.size) (fun e => by rcases hG i e with e | e; exact hF e; omega), h.block i hi hF]⟩
theorem Keeps.of_below {B : Nat} (h : Below B w w') (hB : w.heap.size ≤ B) (F : Nat → Prop) : Keeps F w w' := ⟨h.os, h.tape, h.output, h.size, fun k hk _ => h.block k (by omega)⟩
theorem Keeps.of_grown {r : Option Nat} (h : w.grownBy w' r) (hr : ∀ g, r = some g → F g) : Keeps F w w' :=
  ⟨h.os, h.tape, h.output, h.size, fun k hk hF => h.block k hk (fun e => hF (hr k e.symm))⟩
theorem Keeps.wide (h : Keeps F w w') (hG : ∀ g, F g → g < w.heap.size → G g) : Keeps G w w' :=
  ⟨h.os, h.tape, h.output, h.size, fun k hk hF => h.block k hk (fun e => hF (hG k e hk))⟩
theorem Keeps.set (h : Keeps F w w1) (a : Addr) (v : Value) (ha : F a.block ∨ w.heap.size ≤ a.block) : Keeps F w (w1.setCell a v) :=
  ⟨h.os, h.tape, h.output, by rw [World.size_setCell]; exact h.size, fun k hk hF => by
    rw [heap_set_other (fun e => by subst e; rcases ha with e | e; exact hF e; omega)]; exact h.block k hk hF⟩
theorem Keeps.alloc (h : Keeps F w w1) (o : Obj) : Keeps F w (w1.alloc o) :=
  h.trans (Keeps.of_grown (World.grownBy_alloc w1 o none) (F := fun _ => False) (fun _ e => by cases e)) (fun _ e => e.elim)
theorem Keeps.drewN (h : Keeps F w w1) (n : Nat) : Keeps F w (w1.drewN n) := ⟨h.os, h.tape, h.output, h.size, h.block⟩
theorem Keeps.drew (h : Keeps F w w1) : Keeps F w w1.drew := ⟨h.os, h.tape, h.output, h.size, h.block⟩
theorem Keeps.below {B : Nat} (h : Keeps F w w') (hF : ∀ g, F g → B ≤ g) (hB : B ≤ w.heap.size) : Below B w w' :=
  ⟨h.os, h.tape, h.output, h.size, fun k hk => h.block k (by omega) (fun e => by have := hF k e; omega)⟩
theorem Keeps.cell (h : Keeps F w w') {p : Addr} {v : Value} (hc : w.cell? p = some v) (hp : ¬ F p.block) : w'.cell? p = some v := by
  rw [World.cell?_of_block (w := w) (h.block _ (World.block_lt_of_cell? w _ hc) hp)]; exact hc
theorem owns_keeps {base : Nat} {e : TypeId} {sz : Nat} {v : Value} {n : Nat} {l : List Value} (h : w.ownsRow base e sz v n l) (k : Keeps F w w') (hF : ∀ g, v.ownBlock = some g → ¬ F g) : w'.ownsRow base e sz v n l := by
  refine ⟨h.1, ?_⟩
  rcases h.2 with h | ⟨g, cap, cur, rfl, hb, hg, r⟩
  · exact .inl h
  · exact .inr ⟨g, cap, cur, rfl, hb, by rw [k.block g (lt_of_block hg) (hF g rfl)]; exact hg, r⟩
end
/-- What becomes of the world, and of a thing's own blocks. -/
structure Mv8 (w : World) (F : Nat → Prop) (w' : World) (F' : Nat → Prop) : Prop where
  keeps : Keeps F w w'
  own : ∀ g, F' g → F g ∨ w.heap.size ≤ g
theorem Mv8.trans {w w1 w2 : World} {F F1 F2 : Nat → Prop} (h : Mv8 w F w1 F1) (k : Mv8 w1 F1 w2 F2) : Mv8 w F w2 F2 :=
  ⟨h.keeps.trans k.keeps h.own, fun g hg => by
    rcases k.own g hg with e | e
    · exact h.own g e
    · have := h.keeps.size; exact .inr (by omega)⟩
theorem Mv8.still {w w1 : World} {F : Nat → Prop} (h : Below w.heap.size w w1) : Mv8 w F w1 F := ⟨Keeps.of_below h (Nat.le_refl _) F, fun _ h => .inl h⟩
theorem keeps_out {F : Nat → Prop} {w w' : World} (k : Keeps F w w') {g : Nat} {o : Obj} (h : w.heap[g]? = some o) (hF : ¬ F g) : w'.heap[g]? = some o := by rw [k.block g (lt_of_block h) hF]; exact h
theorem drew_drew (w : World) (q r : Nat) : (w.drewN q).drewN r = w.drewN (q + r) := by simp [World.drewN, Nat.add_assoc]
theorem below_drewN (w : World) (n : Nat) : Below w.heap.size w (w.drewN n) := ⟨rfl, rfl, rfl, Nat.le_refl _, fun _ _ => rfl⟩
theorem below_drew (w : World) : Below w.heap.size w w.drew := ⟨rfl, rfl, rfl, Nat.le_refl _, fun _ _ => rfl⟩
end Go.Proofs.YtgeahpfdaehjaaaGreatDoor
namespace Go.Proofs.YtgeahpfdaehjaaaGreatDoor
open Go.ChangeShapes Go.WideShapes Go.ChangeAt Go.RowKit
open Go.WideElems (Fit rd rg pl rd_val elemAt)
set_option linter.unusedVariables false

section
variable {F G : Nat → Prop} {w w1 w2 w' : World}
theorem map_keeps {k : TypeId} {b n : Nat} {D : DataW Value} (h : w.ownsMap Tryz.prog k RV b n D) (g : Keeps F w w') (hb : ¬ F b) : w'.ownsMap Tryz.prog k RV b n D := by
  obtain ⟨es, clock, hes, r⟩ := h
  exact ⟨es, clock, by rw [g.block b (lt_of_block hes) hb]; exact hes, r⟩
theorem map_turned {b : Nat} (h : w.mapTurned w' b) (F : Nat → Prop) (hF : F b) : Keeps F w w' := Keeps.of_grown h.grown (fun g e => by cases e; exact hF)
theorem map_tight {k : TypeId} {b n : Nat} {l : List En} (h : w.ownsMap Tryz.prog k RV b n (.map l)) : w.ownsMap Tryz.prog k RV b l.length (.map l) := by
  obtain ⟨es, clock, hes, F, _, hD⟩ := h
  refine ⟨es, clock, hes, F, ?_, hD⟩
  have : l.length = es.size := by cases hD; rw [length_sorted]; simp
  omega
theorem map_len {k : TypeId} {b n : Nat} {l : List En} (h : w.ownsMap Tryz.prog k RV b n (.map l)) : l.length ≤ n := by
  have := h.size_le
  exact this
end

theorem keyed : Maps.Keyed Tryz.prog 3 := Maps.int_keyed Tryz.underlying3
theorem key_of (n : Int) (h0 : -9223372036854775808 ≤ n) (h1 : n ≤ 9223372036854775807) : keyOf Tryz.prog 3 (.int .i64 n) = some (.int .i64 n) := Maps.keyOf_int_mk Tryz.underlying3 (WalkArith.wf_i64 (by omega))

def diskCells (rm us : Nat) (dn : Bool) (b : Nat) : Array Value := #[.int .i64 (rm : Nat), .int .i64 (us : Nat), .bool dn, .map (some b)]
/-- A disk behind a pointer at block a: its room, its count of bytes, whether it is down, its map in block b that reads as D, and the parts zs whose bytes are its own. -/
structure DkG (w : World) (a b rm us : Nat) (dn : Bool) (n : Nat) (D : DataW Value) (zs : List (Pt × Value)) : Prop where
  blk : w.heap[a]? = some (.cells (diskCells rm us dn b) 74 (0, 0))
  map : w.ownsMap Tryz.prog 3 RV b n D
  own : ∀ x ∈ zs, OB w 0 x.2 x.1.b
  apart : zs.Pairwise (fun x y => ∀ g, x.2.ownBlock = some g → y.2.ownBlock ≠ some g)
abbrev pts (xs : List (Pt × Value)) : List Pt := xs.map (·.1)
abbrev DkB (w : World) (a b rm : Nat) (dn : Bool) (xs : List (Pt × Value)) : Prop := DkG w a b rm (used (pts xs)) dn xs.length (ents xs) xs
/-- The blocks that are a disk's own. -/
def foot (a b : Nat) (xs : List (Pt × Value)) (g : Nat) : Prop := g = a ∨ g = b ∨ ∃ x ∈ xs, x.2.ownBlock = some g
section
variable {w w' : World} {a b rm us n : Nat} {dn : Bool} {D : DataW Value} {zs : List (Pt × Value)}
theorem DkG.c0 (h : DkG w a b rm us dn n D zs) : w.cell? ⟨a, 0, none⟩ = some (.int .i64 (rm : Nat)) := cell_of_block h.blk
theorem DkG.c1 (h : DkG w a b rm us dn n D zs) : w.cell? ⟨a, 1, none⟩ = some (.int .i64 (us : Nat)) := cell_of_block h.blk
theorem DkG.c2 (h : DkG w a b rm us dn n D zs) : w.cell? ⟨a, 2, none⟩ = some (.bool dn) := cell_of_block h.blk
theorem DkG.c3 (h : DkG w a b rm us dn n D zs) : w.cell? ⟨a, 3, none⟩ = some (.map (some b)) := cell_of_block h.blk
theorem DkG.f (h : DkG w a b rm us dn n D zs) (o : Nat) : w.frozen? ⟨a, o, none⟩ = false := frozen_of_block h.blk
theorem DkG.lt (h : DkG w a b rm us dn n D zs) : a < w.heap.size := lt_of_block h.blk
theorem DkG.blt (h : DkG w a b rm us dn n D zs) : b < w.heap.size := h.map.lt
theorem DkG.ne (h : DkG w a b rm us dn n D zs) : a ≠ b := by
  intro e; subst e
  obtain ⟨es, c, hb, _⟩ := h.map
  have := h.blk
  rw [hb] at this; cases this
theorem DkG.row (h : DkG w a b rm us dn n D zs) {x : Pt × Value} (hx : x ∈ zs) {g : Nat} (hg : x.2.ownBlock = some g) : g ≠ a ∧ g ≠ b ∧ g < w.heap.size := by
  obtain ⟨c, fz, hc⟩ := (h.own x hx).kind g hg
  refine ⟨?_, ?_, lt_of_block hc⟩
  · intro e; subst e; have := h.blk; rw [hc] at this; cases this
  · intro e; subst e; obtain ⟨es, cl, hb, _⟩ := h.map; rw [hc] at hb; cases hb
theorem DkG.footlt (h : DkG w a b rm us dn n D zs) {g : Nat} (hg : foot a b zs g) : g < w.heap.size := by
  rcases hg with rfl | rfl | ⟨x, hx, hg⟩
  · exact h.lt
  · exact h.blt
  · exact (h.row hx hg).2.2
theorem DkG.keeps {F : Nat → Prop} (h : DkG w a b rm us dn n D zs) (k : Keeps F w w') (hF : ∀ g, foot a b zs g → ¬ F g) : DkG w' a b rm us dn n D zs where
  blk := by rw [k.block a h.lt (hF a (.inl rfl))]; exact h.blk
  map := map_keeps h.map k (hF b (.inr (.inl rfl)))
  own x hx := owns_keeps (h.own x hx) k (fun g hg => hF g (.inr (.inr ⟨x, hx, hg⟩)))
  apart := h.apart
theorem DkG.below {B : Nat} (h : DkG w a b rm us dn n D zs) (k : Below B w w') (hB : w.heap.size ≤ B) : DkG w' a b rm us dn n D zs :=
  h.keeps (Keeps.of_below k hB (fun _ => False)) (fun _ _ e => e)
theorem DkG.alloc (h : DkG w a b rm us dn n D zs) (o : Obj) : DkG (w.alloc o) a b rm us dn n D zs := h.below ((Below.refl w.heap.size w).alloc (Nat.le_refl _) o) (Nat.le_refl _)
theorem DkG.drewN (h : DkG w a b rm us dn n D zs) (q : Nat) : DkG (w.drewN q) a b rm us dn n D zs := ⟨h.blk, h.map, h.own, h.apart⟩
theorem DkG.drew (h : DkG w a b rm us dn n D zs) : DkG w.drew a b rm us dn n D zs := ⟨h.blk, h.map, h.own, h.apart⟩
theorem DkG.set (h : DkG w a b rm us dn n D zs) (p : Addr) (v : Value) (hp : ¬ foot a b zs p.block) : DkG (w.setCell p v) a b rm us dn n D zs :=
  h.keeps (F := fun g => g = p.block) ((Keeps.refl _ w).set p v (.inl rfl)) (fun g hg e => hp (by rw [← e]; exact hg))
/-- Its own cells are written. -/
theorem DkG.setU (h : DkG w a b rm us dn n D zs) (us' : Nat) : DkG (w.setCell ⟨a, 1, none⟩ (.int .i64 (us' : Nat))) a b rm us' dn n D zs where
  blk := by rw [heap_set_same h.blk]; rfl
  map := h.map.setCell (a := ⟨a, 1, none⟩) (fun e => h.ne e.symm) _
  own x hx := owns_keeps (F := fun g => g = a) (h.own x hx) ((Keeps.refl _ w).set _ _ (.inl rfl)) (fun g hg => (h.row hx hg).1)
  apart := h.apart
theorem DkG.setD (h : DkG w a b rm us dn n D zs) (dn' : Bool) : DkG (w.setCell ⟨a, 2, none⟩ (.bool dn')) a b rm us dn' n D zs where
  blk := by rw [heap_set_same h.blk]; rfl
  map := h.map.setCell (a := ⟨a, 2, none⟩) (fun e => h.ne e.symm) _
  own x hx := owns_keeps (F := fun g => g = a) (h.own x hx) ((Keeps.refl _ w).set _ _ (.inl rfl)) (fun g hg => (h.row hx hg).1)
  apart := h.apart
/-- Its map is written. -/
theorem DkG.turned {n' : Nat} {D' : DataW Value} (h : DkG w a b rm us dn n D zs) (hm : w'.ownsMap Tryz.prog 3 RV b n' D') (ht : w.mapTurned w' b) : DkG w' a b rm us dn n' D' zs where
  blk := by rw [(map_turned ht (fun g => g = b) rfl).block a h.lt h.ne]; exact h.blk
  map := hm
  own x hx := owns_keeps (h.own x hx) (map_turned ht (fun g => g = b) rfl) (fun g hg => (h.row hx hg).2.1)
  apart := h.apart
theorem DkG.less {x y : List (Pt × Value)} {q : Pt × Value} (h : DkG w a b rm us dn n D (x ++ q :: y)) : DkG w a b rm us dn n D (x ++ y) ∧ OB w 0 q.2 q.1.b ∧ (∀ g, q.2.ownBlock = some g → ¬ foot a b (x ++ y) g) := by
  obtain ⟨h1, h2, h3⟩ := List.pairwise_append.1 h.apart
  obtain ⟨h4, h5⟩ := List.pairwise_cons.1 h2
  have hq : q ∈ x ++ q :: y := by simp
  have sub : ∀ z ∈ x ++ y, z ∈ x ++ q :: y := fun z hz => by
    rcases List.mem_append.1 hz with hz | hz
    · exact List.mem_append.2 (.inl hz)
    · exact List.mem_append.2 (.inr (by simp [hz]))
  refine ⟨⟨h.blk, h.map, fun z hz => h.own z (sub z hz), List.pairwise_append.2 ⟨h1, h5, fun c hc d hd => h3 c hc d (by simp [hd])⟩⟩, h.own q hq, fun g hg hf => ?_⟩
  obtain ⟨r1, r2, _⟩ := h.row hq hg
  rcases hf with e | e | ⟨z, hz, e⟩
  · exact r1 e
  · exact r2 e
  · rcases List.mem_append.1 hz with hz | hz
    · exact h3 z hz q (by simp) g e hg
    · exact h4 z hz g hg e
theorem DkG.more {x y : List (Pt × Value)} {p : Pt × Value} (h : DkG w a b rm us dn n (ents (x ++ p :: y)) (x ++ y)) (ho : OB w 0 p.2 p.1.b) (hf : ∀ g, p.2.ownBlock = some g → ¬ foot a b (x ++ y) g) (hu : us = used (pts (x ++ p :: y))) :
    DkB w a b rm dn (x ++ p :: y) := by
  subst hu
  obtain ⟨h1, h2, h3⟩ := List.pairwise_append.1 h.apart
  refine ⟨h.blk, ?_, fun z hz => ?_, List.pairwise_append.2 ⟨h1, List.pairwise_cons.2 ⟨fun z hz g hg e => hf g hg (.inr (.inr ⟨z, by simp [hz], e⟩)), h2⟩, fun c hc d hd => ?_⟩⟩
  · have := map_tight h.map
    rw [List.length_map] at this
    exact this
  · rcases List.mem_append.1 hz with hz | hz
    · exact h.own z (by simp [hz])
    · rcases List.mem_cons.1 hz with rfl | hz
      · exact ho
      · exact h.own z (by simp [hz])
  · rcases List.mem_cons.1 hd with rfl | hd
    · intro g hg e
      exact hf g e (.inr (.inr ⟨c, by simp [hc], hg⟩))
    · exact h3 c hc d hd
theorem DkG.tight (h : DkG w a b rm us dn n (ents zs) zs) : DkG w a b rm us dn zs.length (ents zs) zs := ⟨h.blk, by have := map_tight h.map; rw [List.length_map] at this; exact this, h.own, h.apart⟩
end
theorem foot_mono {a b : Nat} {x y : List (Pt × Value)} (h : ∀ z ∈ x, z ∈ y) {g : Nat} (hg : foot a b x g) : foot a b y g := by
  rcases hg with e | e | ⟨z, hz, e⟩
  · exact .inl e
  · exact .inr (.inl e)
  · exact .inr (.inr ⟨z, h z hz, e⟩)

/-- A row of bytes of one's own grows by a row that reads so: in its own block, or in a new one. -/
theorem ob_grow {w : World} {v : Value} {l : List UInt8} (h : OB w 0 v l) {A : Option Addr} {cap : Nat} {y : List UInt8} (hr : RdS w A cap y) (hl : l.length + y.length ≤ 1000000) :
    ∃ v' w', (Builtin.append_ #[64, 64] 64 #[v, .slice A y.length cap]).run Tryz.prog w = .ok v' w' ∧ OB w' 0 v' (l ++ y) ∧ w.grownBy w' v.ownBlock ∧ (v'.ownBlock = v.ownBlock ∨ v'.ownBlock = some w.heap.size) := by
  obtain ⟨i, hi, hz0, hz1, hz2⟩ := info_parts infoB
  cases A with
  | none =>
    obtain rfl := hr.nn rfl
    have h0 : y = [] := List.length_eq_zero_iff.1 (by have := hr.le; omega)
    subst h0
    exact ⟨v, w, run_append_owned_none (P := Tryz.prog) (w := w) 0 64 64 5 i 1 Tryz.underlying64 hi _ _ _ h, by simpa using h, grown_refl _ _, .inl rfl⟩
  | some ad =>
    obtain ⟨v', w', hrun, hown, hgr, _, hat⟩ := run_append_own_at (P := Tryz.prog) w 0 64 64 5 i (.int .u8 0) 1 1 Tryz.underlying64 hi hz0 hz1 hz2 rfl (by omega) _ _ _ h ad y.length cap (Lib.byteCells y) (by simp [Lib.byteCells_length])
      (fun j u hu => by
        unfold Lib.byteCells at hu
        rw [List.getElem?_map] at hu
        cases hj : y[j]? with
        | none => rw [hj] at hu; cases hu
        | some c => rw [hj] at hu; cases hu; exact hr.rd ad rfl j c hj)
      (fun u hu => by unfold Lib.byteCells at hu; obtain ⟨x, _, rfl⟩ := List.mem_map.1 hu; rfl) (by unfold maxLen; omega) (by omega) (Nat.zero_le _)
    refine ⟨v', w', hrun, ?_, hgr, hat⟩
    unfold OB
    rw [byteCells_app, List.length_append]
    exact hown
theorem addr_block (ad : Addr) (i : Nat) : (ad.add i).block = ad.block := by unfold Addr.add; split <;> rfl
theorem RdS.keeps {F : Nat → Prop} {w w' : World} {A : Option Addr} {cap : Nat} {l : List UInt8} (h : RdS w A cap l) (k : Keeps F w w') (hA : ∀ ad, A = some ad → ¬ F ad.block) : RdS w' A cap l :=
  ⟨h.le, h.nn, fun ad ha i c hc => k.cell (h.rd ad ha i c hc) (by rw [addr_block]; exact hA ad ha)⟩
end Go.Proofs.YtgeahpfdaehjaaaGreatDoor
namespace Go.Proofs.YtgeahpfdaehjaaaGreatDoor
open Go.RowKit
set_option linter.unusedVariables false

theorem compC : (Tryz.prog.info? 41).map (·.comparable) = some true := by kernel_rfl
theorem equalIn_ints {P : Program} (w : World) (d : Nat) {ti tn : TypeId} {ms : Array (String × TypeId)} {i : TypeInfo} {k : IntKind} (a b : Int)
    (hi : P.underlying ti = some (.interface ms)) (hn : P.underlying tn = some (.int k)) (hinfo : P.info? tn = some i) (hcomp : i.comparable = true) :
    (Op.equalIn (d + 2) ti (.iface tn (.int k a)) (.iface tn (.int k b))).run P w = .ok (a == b) w := by
  simp [Op.equalIn, run_underlying hi, run_underlying hn, typeInfo, hinfo, hcomp]
theorem eql_ints {P : Program} (w : World) {ti tn : TypeId} {ms : Array (String × TypeId)} {i : TypeInfo} {k : IntKind} (a b : Int)
    (hi : P.underlying ti = some (.interface ms)) (hn : P.underlying tn = some (.int k)) (hinfo : P.info? tn = some i) (hcomp : i.comparable = true) :
    (binOp .eql ti (.iface tn (.int k a)) (.iface tn (.int k b))).run P w = .ok (.bool (a == b)) w := by
  simp only [binOp]
  simp [Op.equal, Op.maxDepth, equalIn_ints w 9998 a b hi hn hinfo hcomp]
theorem eql_codes (w : World) (a b : Int) : (binOp .eql 26 (.iface 41 (.int .i64 a)) (.iface 41 (.int .i64 b))).run Tryz.prog w = .ok (.bool (a == b)) w := by
  obtain ⟨i, hi, hcmp⟩ := Option.map_eq_some_iff.1 compC
  exact eql_ints (P := Tryz.prog) w a b Tryz.underlying26 Tryz.underlying41 hi hcmp
end Go.Proofs.YtgeahpfdaehjaaaGreatDoor
namespace Go.Proofs.YtgeahpfdaehjaaaGreatDoor
open Go.ChangeShapes Go.WideShapes Go.ChangeAt Go.RowKit
set_option linter.unusedVariables false

theorem ret_ik {k : IntKind} {a b : Int} (h : a = b) : Ending.returned (.int k a) = .returned (.int k b) := by rw [h]
def Int6 (n : Int) (w : World) (e : Ending) (w' : World) : Prop := e = .returned (.int .i64 n) ∧ w = w'
def Num6 (n : Nat) (w : World) (e : Ending) (w' : World) : Prop := e = .returned (.int .u64 (n : Nat)) ∧ w = w'

theorem fold_neg {n : Int} (h : n < 0) : ((foldN n : Nat) : Int) = (-1 - n) * 2 + 1 := by unfold foldN; rw [if_pos h]; omega
theorem fold_pos {n : Int} (h : ¬ n < 0) : ((foldN n : Nat) : Int) = n * 2 := by unfold foldN; rw [if_neg h]; omega
theorem wireFold (n : Int) (w : World) (h0 : -9223372036854775808 ≤ n) (h1 : n ≤ 9223372036854775807) :
    Calls Tryz.prog 122 #[.int .i64 n] w (Num6 (foldN n) w) := by
  by_cases h : n < 0
  · have HE := Lib.hid (fold_neg h)
    go_enter Tryz.func122, Tryz.ntmps122
    go_wp2
    go_ret
    exact ⟨ret_ik (by rw [HE.out]), rfl⟩
  · have HE := Lib.hid (fold_pos h)
    go_enter Tryz.func122, Tryz.ntmps122
    go_wp2
    go_ret
    exact ⟨ret_ik (by rw [HE.out]), rfl⟩
theorem unfold_odd {n : Nat} (h : n % 2 = 1) : unfoldN n = -1 - (n : Int) / 2 := by unfold unfoldN; rw [if_pos h]; omega
theorem unfold_even {n : Nat} (h : ¬ n % 2 = 1) : unfoldN n = (n : Int) / 2 := by unfold unfoldN; rw [if_neg h]; omega
theorem wireUnfold (n : Nat) (w : World) (h : n < 18446744073709551616) :
    Calls Tryz.prog 153 #[.int .u64 (n : Nat)] w (Int6 (unfoldN n) w) := by
  by_cases hp : n % 2 = 1
  · have HE := Lib.hid (unfold_odd hp)
    have hb : ((n : Int) % 2 == 1) = true := beq_iff_eq.2 (by omega)
    go_enter Tryz.func153, Tryz.ntmps153
    go_wp2
    go_ret
    exact ⟨ret_ik HE.out.symm, rfl⟩
  · have HE := Lib.hid (unfold_even hp)
    have hb : ((n : Int) % 2 == 1) = false := beq_eq_false_iff_ne.2 (by omega)
    go_enter Tryz.func153, Tryz.ntmps153
    go_wp2
    go_ret
    exact ⟨ret_ik HE.out.symm, rfl⟩
theorem refWholeOf (n : Nat) : (if n % 2 = 1 then -1 - ((n / 2 : Nat) : Int) else ((n / 2 : Nat) : Int)) = unfoldN n := rfl
def pick3 (c : Int) : Int := (if c < 0 then -(c + 1) else c) % 3
theorem pick3_lt (c : Int) : 0 ≤ pick3 c ∧ pick3 c < 3 := by unfold pick3; omega
theorem pick_neg {c : Int} (h : c < 0) : pick3 c = -((c + 1).tmod 3) := by
  unfold pick3
  rw [if_pos h, ← Int.neg_tmod, Int.tmod_eq_emod_of_nonneg (by omega)]
theorem pick_pos {c : Int} (h : ¬ c < 0) : pick3 c = c % 3 := by unfold pick3; rw [if_neg h]
/-- A call that hands back a row of bytes of its own. -/
def Bytes (B : Nat) (l : List UInt8) (w : World) (e : Ending) (w' : World) : Prop := ∃ v', e = .returned v' ∧ OB w' B v' l ∧ Below B w w'
theorem wireCopy (A : Option Addr) (cap : Nat) (l : List UInt8) (r : Nat) (w : World) (hr : RdS w A cap l) (hl : l.length ≤ 5000) (h1 : r ≤ 5000) :
    Calls Tryz.prog 107 #[.slice A l.length cap, .int .i64 (r : Int)] w (Bytes w.heap.size l w) := by
  obtain ⟨v1, w1, r1, o1, g1⟩ := ob_make (w := w) (B := w.heap.size) (l.length + r) (by omega) (Nat.le_refl _)
  obtain ⟨v2, w2, r2, o2, g2⟩ := ob_row o1 (hr.below g1.below (Nat.le_refl _)) (by simp; omega) g1.below.size
  have R1 := Lib.hid r1
  have R2 := Lib.hid r2
  have O := Lib.hid o2
  have G := Lib.hid (g1.trans g2)
  rw [Int.natCast_add] at R1
  clear r1 r2 o1 o2 g1 g2 hr
  go_enter Tryz.func107, Tryz.ntmps107
  have r1 := R1.out
  go_wp2_with (at_builtin; refine wpList_append_two rfl (.tmp 9) (.tmp 10) 64 64 rfl _ _ _ rfl rfl R2.out ?_)
  go_ret
  exact ⟨_, rfl, O.out, G.out.below⟩
end Go.Proofs.YtgeahpfdaehjaaaGreatDoor
namespace Go.Proofs.YtgeahpfdaehjaaaGreatDoor
open Go.ChangeShapes Go.WideShapes Go.ChangeAt Go.RowKit
set_option linter.unusedVariables false

theorem or_fin : ∀ x : Fin 256, x.val ||| 128 = x.val % 128 + 128 := by decide +kernel
theorem or_byte (m : Nat) : bits .or .u8 ((m : Int) % 256) 128 = ((m % 128 + 128 : Nat) : Int) := by
  rw [u8_or _ _ (by omega) (by omega) (by omega) (by omega)]
  have h := or_fin ⟨m % 256, by omega⟩
  simp only at h
  rw [show ((m : Int) % 256).toNat = m % 256 by omega, show (128 : Int).toNat = 128 from rfl, h]
  omega
theorem ob_byte {w : World} {B : Nat} {v : Value} {l : List UInt8} (h : OB w B v l) (x : UInt8) (c : Int) (hc : ((x.toNat : Nat) : Int) = c) (hl : l.length ≤ 100000) (hB : B ≤ w.heap.size) :
    ∃ v' w', (Builtin.append_ #[64, 64] 64 #[v, .slice (some ⟨w.heap.size, 0, none⟩) 1 1]).run Tryz.prog (w.alloc (.cells #[.int .u8 c] 5)) = .ok v' w' ∧ OB w' B v' (l ++ [x]) ∧ Gr B w w' := by
  subst hc
  exact ob_lit h [x] (by simp; omega) hB

structure PutAt (w : World) (B : Nat) (all : List UInt8) (acc : List UInt8) (n : Nat) (v : Value) (wr : World) : Prop where
  own : OB wr B v acc
  all : acc ++ enc n = all
  below : Below B w wr
set_option maxRecDepth 100000 in
theorem wirePut (B : Nat) (v : Value) (l : List UInt8) (n : Nat) (w : World) (ho : OB w B v l) (hB : B ≤ w.heap.size) (hl : l.length ≤ 10000) (hn : n < 18446744073709551616) :
    Calls Tryz.prog 106 #[v, .int .u64 (n : Nat)] w (Bytes B (l ++ enc n) w) := by
  have G0 := Lib.hid (PutAt.mk ho rfl (Below.refl B w) : PutAt w B (l ++ enc n) l n v w)
  have hle := enc_length n hn
  have hp := enc_pos n
  have hall : (l ++ enc n).length ≤ 10010 := by rw [List.length_append]; omega
  have HB := Lib.hid hB
  clear ho hB
  go_enter Tryz.func106, Tryz.ntmps106
  go_wp2
  go_loopg [0, 1] ((enc n).length - 1) (fun g s0 s1 wx => ∃ (m : Nat) (acc : List UInt8), m < 18446744073709551616 ∧ (enc m).length = g + 1 ∧ s1 = .int .u64 (m : Nat) ∧ Hid (PutAt w B (l ++ enc n) acc m s0 wx))
  case atStart => exact ⟨n, l, hn, by omega, rfl, G0⟩
  case round =>
    clear G0 hp hle hn hl
    obtain ⟨m, acc, hm, hlen, rfl, HG⟩ := hrel
    have hac : acc.length ≤ 10010 := by
      have := congrArg List.length HG.out.all
      rw [List.length_append] at this
      omega
    clear hall
    cases gk with
    | zero =>
      have hsm : m < 128 := by
        rcases Nat.lt_or_ge m 128 with h | h
        · exact h
        · rw [enc_great h] at hlen
          have := enc_pos (m / 128)
          rw [List.length_cons] at hlen
          omega
      obtain ⟨v2, w2, r2, o2, g2⟩ := ob_byte HG.out.own m.toUInt8 (m : Int) (by rw [byte_toNat (by omega)]) (by omega) (Nat.le_trans HB.out HG.out.below.size)
      have R2 := Lib.hid r2
      have O2 := Lib.hid (show OB w2 B v2 (l ++ enc n) from by have := HG.out.all; rw [enc_small hsm] at this; rw [← this]; exact o2)
      have B2 := Lib.hid (HG.out.below.trans g2.below)
      clear r2 o2 g2 hlen
      go_wp2_with (at_builtin; refine wpList_append_two rfl (.tmp 15) (.tmp 18) 64 64 rfl _ _ _ rfl rfl R2.out ?_)
      go_ret
      exact ⟨_, rfl, O2.out, B2.out⟩
    | succ g =>
      have hgr : 128 ≤ m := by
        rcases Nat.lt_or_ge m 128 with h | h
        · rw [enc_small h] at hlen
          simp at hlen
        · exact h
      obtain ⟨v2, w2, r2, o2, g2⟩ := ob_byte HG.out.own (m % 128 + 128).toUInt8 (bits .or .u8 ((m : Int) % 256) 128) (by rw [byte_toNat (by omega), or_byte]) (by omega) (Nat.le_trans HB.out HG.out.below.size)
      have R2 := Lib.hid r2
      have HA : Hid (PutAt w B (l ++ enc n) (acc ++ [(m % 128 + 128).toUInt8]) (m / 128) v2 w2) := Lib.hid ⟨o2, by rw [List.append_assoc, List.singleton_append, ← enc_great hgr]; exact HG.out.all, HG.out.below.trans g2.below⟩
      have hlen2 : (enc (m / 128)).length = g + 1 := by rw [enc_great hgr, List.length_cons] at hlen; omega
      have HL := Lib.hid hlen2
      clear r2 o2 g2 hlen hlen2
      go_wp2_with (at_builtin; refine wpList_append_two rfl (.tmp 7) (.tmp 11) 64 64 rfl _ _ _ rfl rfl R2.out ?_)
      go_roundg g
      case rel => exact ⟨m / 128, _, by omega, HL.out, by rw [Int.natCast_ediv]; rfl, HA⟩
      case measure => omega
theorem wireNumber (A : Option Addr) (cap : Nat) (l : List UInt8) (n : Nat) (w : World) (hr : RdS w A cap l) (hl : l.length ≤ 5000) (hn : n < 18446744073709551616) :
    Calls Tryz.prog 80 #[.slice A l.length cap, .int .u64 (n : Nat)] w (Bytes w.heap.size (l ++ enc n) w) := by
  have C := Lib.hid (wireCopy A cap l 10 w hr hl (by omega))
  have HN := Lib.hid hn
  clear hr hn
  go_enter Tryz.func80, Tryz.ntmps80
  go_wp2_with fail
  refine C.out.mono ?_
  rintro e w1 ⟨v1, rfl, o1, b1⟩
  have P := Lib.hid (wirePut w.heap.size v1 l n w1 o1 b1.size (by omega) HN.out)
  have B1 := Lib.hid b1
  clear o1 b1 C
  go_wp2_with fail
  refine P.out.mono ?_
  rintro e w2 ⟨v2, rfl, o2, b2⟩
  have O := Lib.hid o2
  have B2 := Lib.hid (B1.out.trans b2)
  clear o2 b2
  go_wp2_with fail
  go_ret
  exact ⟨_, rfl, O.out, B2.out⟩
theorem wireWhole (A : Option Addr) (cap : Nat) (l : List UInt8) (n : Int) (w : World) (hr : RdS w A cap l) (hl : l.length ≤ 5000) (h0 : -9223372036854775808 ≤ n) (h1 : n ≤ 9223372036854775807) :
    Calls Tryz.prog 108 #[.slice A l.length cap, .int .i64 n] w (Bytes w.heap.size (l ++ enc (foldN n)) w) := by
  have F := Lib.hid (wireFold n w h0 h1)
  have C := Lib.hid (wireNumber A cap l (foldN n) w hr hl (fold_lt h0 h1))
  clear hr
  go_enter Tryz.func108, Tryz.ntmps108
  go_wp2_with (first
    | ((go_at_call 122; refine F.out.mono ?_); rintro e w' ⟨rfl, rfl⟩)
    | ((go_at_call 80; refine C.out.mono ?_); rintro e w' ⟨v1, rfl, hO⟩))
  go_ret
  exact ⟨_, rfl, hO⟩
theorem wireTextL (A : Option Addr) (cap : Nat) (l : List UInt8) (s : ByteArray) (w : World) (hr : RdS w A cap l) (hl : l.length ≤ 4000) (hs : s.size ≤ 4200) :
    Calls Tryz.prog 81 #[.slice A l.length cap, .string s] w (Bytes w.heap.size (l ++ encT s) w) := by
  have C := Lib.hid (wireCopy A cap l (10 + s.size) w hr (by omega) (by omega))
  have hc : ((10 + s.size : Nat) : Int) = 10 + (s.size : Int) := by omega
  rw [hc] at C
  clear hr hc
  go_enter Tryz.func81, Tryz.ntmps81
  go_wp2_with fail
  refine C.out.mono ?_
  rintro e w1 ⟨v1, rfl, o1, b1⟩
  have P := Lib.hid (wirePut w.heap.size v1 l s.size w1 o1 b1.size (by omega) (by omega))
  have B1 := Lib.hid b1
  have hz1 := b1.size
  clear o1 b1 C
  go_wp2_with fail
  refine P.out.mono ?_
  rintro e w2 ⟨v2, rfl, o2, b2⟩
  have he := enc_length s.size (by omega)
  obtain ⟨v3, w3, r3, o3, g3⟩ := ob_str o2 s (by rw [List.length_append]; omega) (Nat.le_trans hz1 b2.size)
  have R3 := Lib.hid r3
  have O : Hid (OB w3 w.heap.size v3 (l ++ encT s)) := Lib.hid (by unfold encT; rw [← List.append_assoc]; exact o3)
  have B2 := Lib.hid ((B1.out.trans b2).trans g3.below)
  clear o2 b2 r3 o3 g3 he
  go_wp2_with (at_builtin; refine wpList_append_two rfl (.tmp 13) (.tmp 14) 64 9 rfl _ _ _ rfl rfl R3.out ?_)
  go_ret
  exact ⟨_, rfl, O.out, B2.out⟩
theorem wireText (A : Option Addr) (cap : Nat) (l : List UInt8) (s : ByteArray) (w : World) (hr : RdS w A cap l) (hl : l.length ≤ 4000) (hs : s.size ≤ 2000) :
    Calls Tryz.prog 81 #[.slice A l.length cap, .string s] w (Bytes w.heap.size (l ++ encT s) w) :=
  wireTextL A cap l s w hr hl (by omega)
end Go.Proofs.YtgeahpfdaehjaaaGreatDoor
namespace Go.Proofs.YtgeahpfdaehjaaaGreatDoor
set_option linter.unusedVariables false

structure Rw where
  key : ByteArray
  kind : Int
  many : Nat
  sum : Int
  least : Int
  most : Int
  over : Bool
  bks : List Nat
structure Bt where
  seq : Int
  start : Int
  rows : List Rw

def overN (b : Bool) : Nat := if b then 1 else 0
def bksL (l : List Nat) : List UInt8 := l.flatMap enc
def rowHead (r : Rw) : List UInt8 := encT r.key ++ enc r.kind.toNat ++ enc r.many ++ enc (foldN r.sum) ++ enc (foldN r.least) ++ enc (foldN r.most) ++ enc (overN r.over) ++ enc r.bks.length
def rowL (r : Rw) : List UInt8 := rowHead r ++ bksL r.bks
def rowsL (l : List Rw) : List UInt8 := l.flatMap rowL
def putHead (b : Bt) : List UInt8 := enc b.seq.toNat ++ enc b.start.toNat ++ enc b.rows.length
def putL (b : Bt) : List UInt8 := putHead b ++ rowsL b.rows

/-- What a machine holds. -/
structure FitR (r : Rw) : Prop where
  many : r.many < 18446744073709551616
  sum0 : -9223372036854775808 ≤ r.sum
  sum1 : r.sum ≤ 9223372036854775807
  least0 : -9223372036854775808 ≤ r.least
  least1 : r.least ≤ 9223372036854775807
  most0 : -9223372036854775808 ≤ r.most
  most1 : r.most ≤ 9223372036854775807
  bks : ∀ n ∈ r.bks, n < 18446744073709551616
/-- What a reader of a batch takes. -/
structure InR (r : Rw) : Prop where
  fit : FitR r
  key : r.key.size ≤ 300
  kind0 : 0 ≤ r.kind
  kind1 : r.kind ≤ 3
  len : r.bks.length ≤ 65
structure InB (b : Bt) : Prop where
  seq0 : 0 ≤ b.seq
  seq1 : b.seq ≤ 2147483647
  start0 : 0 ≤ b.start
  start1 : b.start ≤ 1099511627776
  len : b.rows.length ≤ 200
  rows : ∀ r ∈ b.rows, InR r

/-- A batch's reader: the bytes' reader, and whether something was beyond its limit. -/
structure Gs where
  r : Rs
  bey : Bool
def gNum (l : List UInt8) (g : Gs) : Nat × Gs := ((rsNum l g.r).1, ⟨(rsNum l g.r).2, g.bey⟩)
def gUp (l : List UInt8) (m : Nat) (g : Gs) : Nat × Gs := if m < (rsNum l g.r).1 then (0, ⟨(rsNum l g.r).2, true⟩) else ((rsNum l g.r).1, ⟨(rsNum l g.r).2, g.bey⟩)
def gText (l : List UInt8) (g : Gs) : List UInt8 × Gs := ((rsText l 300 g.r).1, ⟨(rsText l 300 g.r).2, g.bey⟩)
def gBks (l : List UInt8) : Nat → Gs → List Nat → List Nat × Gs
  | 0, g, acc => (acc, g)
  | k + 1, g, acc => gBks l k (gNum l g).2 (acc ++ [(gNum l g).1])
/-- A row ahead of its buckets, and how many there are. -/
def gHead (l : List UInt8) (g : Gs) : Rw × Gs :=
  let a := gText l g
  let b := gUp l 3 a.2
  let c := gNum l b.2
  let d := gNum l c.2
  let e := gNum l d.2
  let f := gNum l e.2
  let o := gUp l 1 f.2
  (⟨⟨a.1.toArray⟩, (b.1 : Nat), c.1, unfoldN d.1, unfoldN e.1, unfoldN f.1, o.1 == 1, []⟩, o.2)
def gRow (l : List UInt8) (g : Gs) : Rw × Gs :=
  let h := gHead l g
  let m := gUp l 65 h.2
  let t := gBks l m.1 m.2 []
  ({ h.1 with bks := t.1 }, t.2)
def gRows (l : List UInt8) : Nat → Gs → List Rw → List Rw × Gs
  | 0, g, acc => (acc, g)
  | k + 1, g, acc => gRows l k (gRow l g).2 (acc ++ [(gRow l g).1])
def g0 : Gs := ⟨⟨0, false⟩, false⟩
def gBatch (l : List UInt8) : Bt × Gs :=
  let a := gUp l 2147483647 g0
  let b := gUp l 1099511627776 a.2
  let c := gUp l 200 b.2
  let t := gRows l c.1 c.2 []
  (⟨(a.1 : Nat), (b.1 : Nat), t.1⟩, t.2)

/-- What was written is read. -/
def Stand (l : List UInt8) (g : Gs) (rest : List UInt8) : Prop := g.bey = false ∧ g.r.bad = false ∧ g.r.at_ ≤ l.length ∧ l.drop g.r.at_ = rest
theorem stand_step {l x rest : List UInt8} {k : Nat} (hk : k ≤ l.length) (h : l.drop k = x ++ rest) : k + x.length ≤ l.length ∧ l.drop (k + x.length) = rest := by
  have hl := congrArg List.length h
  rw [List.length_drop, List.length_append] at hl
  refine ⟨by omega, ?_⟩
  rw [← List.drop_drop, h]
  simp
theorem dec_stand {l rest : List UInt8} {k n : Nat} (hn : n < 18446744073709551616) (h : l.drop k = enc n ++ rest) : decF 0 0 (l.drop k) = some (n, (enc n).length) := by
  rw [h, dec_enc n 0 0 rest (by omega) (by simpa using hn) (by omega)]
  simp
theorem stand_num {l rest : List UInt8} {g : Gs} {n : Nat} (hn : n < 18446744073709551616) (h : Stand l g (enc n ++ rest)) : ∃ g', gNum l g = (n, g') ∧ Stand l g' rest := by
  obtain ⟨⟨k, bad⟩, bey⟩ := g
  obtain ⟨h1, h2, h3, h4⟩ := h
  simp only at h1 h2 h3 h4
  subst h1 h2
  obtain ⟨s1, s2⟩ := stand_step h3 h4
  refine ⟨⟨⟨k + (enc n).length, false⟩, false⟩, ?_, rfl, rfl, s1, s2⟩
  unfold gNum rsNum
  simp only [dec_stand hn h4]
  rfl
theorem stand_up {l rest : List UInt8} {g : Gs} {n m : Nat} (hm : n ≤ m) (hn : n < 18446744073709551616) (h : Stand l g (enc n ++ rest)) : ∃ g', gUp l m g = (n, g') ∧ Stand l g' rest := by
  obtain ⟨g', e, hs⟩ := stand_num hn h
  refine ⟨g', ?_, hs⟩
  unfold gNum at e
  simp only [Prod.mk.injEq] at e
  unfold gUp
  rw [e.1, if_neg (by omega), e.2]
theorem stand_text {l rest : List UInt8} {g : Gs} {s : ByteArray} (hs : s.size ≤ 300) (h : Stand l g (encT s ++ rest)) : ∃ g', gText l g = (s.data.toList, g') ∧ Stand l g' rest := by
  obtain ⟨⟨k, bad⟩, bey⟩ := g
  obtain ⟨h1, h2, h3, h4⟩ := h
  simp only at h1 h2 h3 h4
  subst h1 h2
  unfold encT at h4
  rw [List.append_assoc] at h4
  obtain ⟨s1, s2⟩ := stand_step h3 h4
  obtain ⟨t1, t2⟩ := stand_step s1 s2
  have hl : s.data.toList.length = s.size := by simp
  rw [hl] at t1 t2
  refine ⟨⟨⟨k + (enc s.size).length + s.size, false⟩, false⟩, ?_, rfl, rfl, t1, t2⟩
  unfold gText rsText
  simp only [dec_stand (show s.size < 18446744073709551616 by omega) h4]
  rw [if_neg (by decide), if_neg (by omega), s2, ← hl]
  simp
theorem stand_bks {l rest : List UInt8} : ∀ (bs : List Nat) (g : Gs) (acc : List Nat), (∀ n ∈ bs, n < 18446744073709551616) → Stand l g (bksL bs ++ rest) → ∃ g', gBks l bs.length g acc = (acc ++ bs, g') ∧ Stand l g' rest
  | [], g, acc, _, h => ⟨g, by simp [gBks], by simpa [bksL] using h⟩
  | n :: bs, g, acc, hn, h => by
    have h' : Stand l g (enc n ++ (bksL bs ++ rest)) := by simpa [bksL] using h
    obtain ⟨g1, e1, s1⟩ := stand_num (hn n (by simp)) h'
    obtain ⟨g2, e2, s2⟩ := stand_bks bs g1 (acc ++ [n]) (fun m hm => hn m (by simp [hm])) s1
    refine ⟨g2, ?_, s2⟩
    rw [List.length_cons, gBks, e1]
    simp only
    rw [e2]
    simp
theorem overN_lt (b : Bool) : overN b ≤ 1 := by cases b <;> simp [overN]
theorem overN_eq (b : Bool) : (overN b == 1) = b := by cases b <;> rfl
theorem stand_row {l rest : List UInt8} {g : Gs} {r : Rw} (hr : InR r) (h : Stand l g (rowL r ++ rest)) : ∃ g', gRow l g = (r, g') ∧ Stand l g' rest := by
  unfold rowL rowHead at h
  simp only [List.append_assoc] at h
  obtain ⟨ga, ea, h⟩ := stand_text hr.key h
  obtain ⟨gb, eb, h⟩ := stand_up (m := 3) (by have := hr.kind0; have := hr.kind1; omega) (by have := hr.kind1; omega) h
  obtain ⟨gc, ec, h⟩ := stand_num hr.fit.many h
  obtain ⟨gd, ed, h⟩ := stand_num (fold_lt hr.fit.sum0 hr.fit.sum1) h
  obtain ⟨ge, ee, h⟩ := stand_num (fold_lt hr.fit.least0 hr.fit.least1) h
  obtain ⟨gf, ef, h⟩ := stand_num (fold_lt hr.fit.most0 hr.fit.most1) h
  obtain ⟨go, eo, h⟩ := stand_up (m := 1) (overN_lt _) (by have := overN_lt r.over; omega) h
  obtain ⟨gm, em, h⟩ := stand_up (m := 65) hr.len (by have := hr.len; omega) h
  obtain ⟨gt, et, h⟩ := stand_bks r.bks gm [] hr.fit.bks h
  refine ⟨gt, ?_, h⟩
  unfold gRow gHead
  simp only [ea, eb, ec, ed, ee, ef, eo, em, et]
  obtain ⟨k, kd, mn, sm, ls, ms, ov, bk⟩ := r
  have h0 := hr.kind0
  simp only at h0 ⊢
  rw [overN_eq, unfold_fold, unfold_fold, unfold_fold, Int.toNat_of_nonneg h0]
  simp
theorem stand_rows {l rest : List UInt8} : ∀ (rs : List Rw) (g : Gs) (acc : List Rw), (∀ r ∈ rs, InR r) → Stand l g (rowsL rs ++ rest) → ∃ g', gRows l rs.length g acc = (acc ++ rs, g') ∧ Stand l g' rest
  | [], g, acc, _, h => ⟨g, by simp [gRows], by simpa [rowsL] using h⟩
  | r :: rs, g, acc, hr, h => by
    have h' : Stand l g (rowL r ++ (rowsL rs ++ rest)) := by simpa [rowsL] using h
    obtain ⟨g1, e1, s1⟩ := stand_row (hr r (by simp)) h'
    obtain ⟨g2, e2, s2⟩ := stand_rows rs g1 (acc ++ [r]) (fun m hm => hr m (by simp [hm])) s1
    refine ⟨g2, ?_, s2⟩
    rw [List.length_cons, gRows, e1]
    simp only
    rw [e2]
    simp
theorem get_put {b : Bt} (hb : InB b) : ∃ g, gBatch (putL b) = (b, g) ∧ g.bey = false ∧ rsEnd (putL b) g.r = none := by
  have h : Stand (putL b) g0 (putL b) := ⟨rfl, rfl, Nat.zero_le _, rfl⟩
  generalize hl : putL b = l at h ⊢
  have h : Stand l g0 (putL b ++ []) := by rw [hl, List.append_nil]; exact h
  unfold putL putHead at h
  simp only [List.append_assoc] at h
  obtain ⟨ga, ea, h⟩ := stand_up (m := 2147483647) (by have := hb.seq0; have := hb.seq1; omega) (by have := hb.seq1; omega) h
  obtain ⟨gb, eb, h⟩ := stand_up (m := 1099511627776) (by have := hb.start0; have := hb.start1; omega) (by have := hb.start1; omega) h
  obtain ⟨gc, ec, h⟩ := stand_up (m := 200) hb.len (by have := hb.len; omega) h
  obtain ⟨gt, et, h⟩ := stand_rows b.rows gc [] hb.rows h
  refine ⟨gt, ?_, h.1, ?_⟩
  · unfold gBatch
    simp only [ea, eb, ec, et]
    obtain ⟨s, t, rs⟩ := b
    have h0 := hb.seq0
    have h1 := hb.start0
    simp only at h0 h1 ⊢
    rw [Int.toNat_of_nonneg h0, Int.toNat_of_nonneg h1]
    simp
  · obtain ⟨_, h2, h3, h4⟩ := h
    unfold rsEnd
    rw [if_pos]
    refine ⟨h2, ?_⟩
    have := List.drop_eq_nil_iff.1 h4
    omega

/-- What is read is what was written. -/
theorem dec_inv : ∀ (s : List UInt8) (i a n k : Nat), decF i a s = some (n, k) → ∃ m, n = a + m * 128 ^ i ∧ k = i + (enc m).length ∧ s = enc m ++ s.drop (k - i) ∧ (0 < i → 0 < m)
  | [], i, a, n, k, h => by rw [dec_nil] at h; cases h
  | c :: s, i, a, n, k, h => by
    rw [dec_cons] at h
    unfold decStep at h
    have hc := UInt8.toNat_lt c
    split at h
    · cases h
    split at h
    · rename_i h2
      split at h
      · cases h
      · rename_i h3
        cases h
        have he : enc c.toNat = [c] := by rw [enc_small h2]; simp
        refine ⟨c.toNat, rfl, by rw [he]; rfl, ?_, fun hi => by omega⟩
        rw [he, show i + 1 - i = 1 by omega]
        simp
    · rename_i h2
      obtain ⟨m, e1, e2, e3, e4⟩ := dec_inv s (i + 1) _ n k h
      have hm := e4 (by omega)
      have hg : 128 ≤ c.toNat - 128 + 128 * m := by omega
      have he : enc (c.toNat - 128 + 128 * m) = c :: enc m := by
        rw [enc_great hg, show (c.toNat - 128 + 128 * m) % 128 + 128 = c.toNat by omega, show (c.toNat - 128 + 128 * m) / 128 = m by omega]
        simp
      refine ⟨c.toNat - 128 + 128 * m, ?_, ?_, ?_, fun _ => by omega⟩
      · rw [e1, Nat.add_mul, pow_split, Nat.add_assoc]
        congr 2
        rw [Nat.mul_comm (128 ^ i) 128, ← Nat.mul_assoc, Nat.mul_comm m 128]
      · rw [he, e2, List.length_cons]; omega
      · rw [he, List.cons_append]
        congr 1
        rw [show k - i = (k - (i + 1)) + 1 by rw [e2]; omega, List.drop_succ_cons]
        exact e3
theorem dec_whole {s : List UInt8} {n k : Nat} (h : decF 0 0 s = some (n, k)) : k = (enc n).length ∧ s = enc n ++ s.drop k := by
  obtain ⟨m, e1, e2, e3, _⟩ := dec_inv s 0 0 n k h
  have : n = m := by simpa using e1
  subst this
  exact ⟨by omega, by simpa using e3⟩
theorem fold_unfold (n : Nat) : foldN (unfoldN n) = n := by
  unfold foldN unfoldN
  by_cases h : n % 2 = 1
  · rw [if_pos h, if_pos (by omega)]; omega
  · rw [if_neg h, if_neg (by omega)]; omega
theorem unfold_bounds {n : Nat} (h : n < 18446744073709551616) : -9223372036854775808 ≤ unfoldN n ∧ unfoldN n ≤ 9223372036854775807 := by
  unfold unfoldN
  split <;> omega

/-- Nothing is amiss. -/
def Clean (l : List UInt8) (g : Gs) : Prop := g.bey = false ∧ g.r.bad = false ∧ g.r.at_ ≤ l.length
theorem back_num {l : List UInt8} {g : Gs} (hat : g.r.at_ ≤ l.length) (h : (gNum l g).2.r.bad = false) :
    g.r.bad = false ∧ (gNum l g).2.r.at_ ≤ l.length ∧ l.drop g.r.at_ = enc (gNum l g).1 ++ l.drop (gNum l g).2.r.at_ := by
  obtain ⟨⟨k, bad⟩, bey⟩ := g
  have hle := (rsNum_le (l := l) (r := ⟨k, bad⟩) hat).1
  unfold gNum at h ⊢
  simp only at h hat ⊢
  refine ⟨?_, hle, ?_⟩
  · cases bad with
    | false => rfl
    | true => unfold rsNum at h; exact h
  · cases bad with
    | true => unfold rsNum at h; cases h
    | false =>
      unfold rsNum at h ⊢
      simp only at h ⊢
      cases hd : decF 0 0 (l.drop k) with
      | none => rw [hd] at h; cases h
      | some p =>
        obtain ⟨n, j⟩ := p
        obtain ⟨e1, e2⟩ := dec_whole hd
        simp only [Bool.false_eq_true, if_false]
        rw [← List.drop_drop]
        exact e2
theorem gUp_or (l : List UInt8) (m : Nat) (g : Gs) : (gUp l m g).2.bey = false → g.bey = false ∧ gUp l m g = gNum l g ∧ (gNum l g).1 ≤ m := by
  unfold gUp gNum
  split
  · intro h; cases h
  · intro h
    exact ⟨h, rfl, by simp only; omega⟩
theorem gUp_at (l : List UInt8) (m : Nat) (g : Gs) : (gUp l m g).2.r = (gNum l g).2.r := by
  unfold gUp gNum
  split <;> rfl
theorem gUp_le (l : List UInt8) (m : Nat) (g : Gs) : (gUp l m g).1 ≤ m := by
  unfold gUp
  split
  · simp
  · simp only; omega
theorem num_at {l : List UInt8} {g : Gs} (h : g.r.at_ ≤ l.length) : (gNum l g).2.r.at_ ≤ l.length := (rsNum_le (l := l) (r := g.r) h).1
theorem num_lt {l : List UInt8} {g : Gs} (h : g.r.at_ ≤ l.length) : (gNum l g).1 < 18446744073709551616 := (rsNum_le (l := l) (r := g.r) h).2
theorem up_at {l : List UInt8} {m : Nat} {g : Gs} (h : g.r.at_ ≤ l.length) : (gUp l m g).2.r.at_ ≤ l.length := by rw [gUp_at]; exact num_at h
theorem text_at {l : List UInt8} {g : Gs} (h : g.r.at_ ≤ l.length) : (gText l g).2.r.at_ ≤ l.length := rsText_le (l := l) (r := g.r) h
theorem back_up {l : List UInt8} {m : Nat} {g : Gs} (hat : g.r.at_ ≤ l.length) (h : Clean l (gUp l m g).2) :
    Clean l g ∧ l.drop g.r.at_ = enc (gUp l m g).1 ++ l.drop (gUp l m g).2.r.at_ := by
  obtain ⟨h1, h2, h3⟩ := h
  obtain ⟨k1, k2, k3⟩ := gUp_or l m g h1
  rw [k2] at h2 ⊢
  obtain ⟨j1, j2, j3⟩ := back_num hat h2
  exact ⟨⟨k1, j1, hat⟩, j3⟩
theorem back_n {l : List UInt8} {g : Gs} (hat : g.r.at_ ≤ l.length) (h : Clean l (gNum l g).2) :
    Clean l g ∧ l.drop g.r.at_ = enc (gNum l g).1 ++ l.drop (gNum l g).2.r.at_ := by
  obtain ⟨h1, h2, h3⟩ := h
  obtain ⟨j1, j2, j3⟩ := back_num hat h2
  exact ⟨⟨h1, j1, hat⟩, j3⟩
theorem back_text {l : List UInt8} {g : Gs} (hat : g.r.at_ ≤ l.length) (h : Clean l (gText l g).2) :
    Clean l g ∧ l.drop g.r.at_ = encT ⟨(gText l g).1.toArray⟩ ++ l.drop (gText l g).2.r.at_ ∧ (gText l g).1.length ≤ 300 := by
  obtain ⟨⟨k, bad⟩, bey⟩ := g
  obtain ⟨h1, h2, h3⟩ := h
  unfold gText at h1 h2 h3 ⊢
  simp only at h1 h2 h3 hat ⊢
  cases bad with
  | true => unfold rsText at h2; cases h2
  | false =>
    refine ⟨⟨h1, rfl, hat⟩, ?_⟩
    unfold rsText at h2 ⊢
    simp only at h2 ⊢
    cases hd : decF 0 0 (l.drop k) with
    | none => rw [hd] at h2; cases h2
    | some p =>
      obtain ⟨n, j⟩ := p
      rw [hd] at h2
      simp only [Bool.false_eq_true, if_false] at h2 ⊢
      split at h2
      · cases h2
      · rename_i hc
        rw [if_neg hc]
        obtain ⟨e1, e2⟩ := dec_whole hd
        obtain ⟨_, _, b3, _⟩ := dec_bound _ 0 0 _ _ (by omega) hd
        rw [List.length_drop] at b3
        have hlen : ((l.drop (k + j)).take n).length = n := by rw [List.length_take, List.length_drop]; omega
        refine ⟨?_, by simp only; omega⟩
        unfold encT
        have hsz : (⟨((l.drop (k + j)).take n).toArray⟩ : ByteArray).size = n := by
          show ((l.drop (k + j)).take n).toArray.size = n
          simp only [List.size_toArray]; exact hlen
        simp only
        rw [hsz, List.append_assoc, ← List.drop_drop (i := n) (j := k + j), List.take_append_drop, ← List.drop_drop]
        exact e2
theorem bks_at {l : List UInt8} : ∀ (k : Nat) (g : Gs) (acc : List Nat), g.r.at_ ≤ l.length → (gBks l k g acc).2.r.at_ ≤ l.length
  | 0, g, acc, h => h
  | k + 1, g, acc, h => bks_at k _ _ (num_at h)
theorem back_bks {l : List UInt8} : ∀ (k : Nat) (g : Gs) (acc : List Nat), g.r.at_ ≤ l.length → Clean l (gBks l k g acc).2 →
    Clean l g ∧ ∃ bs, (gBks l k g acc).1 = acc ++ bs ∧ bs.length = k ∧ l.drop g.r.at_ = bksL bs ++ l.drop (gBks l k g acc).2.r.at_
  | 0, g, acc, hat, h => ⟨h, [], by simp [gBks], rfl, by simp [gBks, bksL]⟩
  | k + 1, g, acc, hat, h => by
    rw [gBks] at h ⊢
    obtain ⟨c1, bs, e1, e2, e3⟩ := back_bks k _ _ (num_at hat) h
    obtain ⟨c0, d0⟩ := back_n hat c1
    refine ⟨c0, (gNum l g).1 :: bs, by rw [e1]; simp, by simp [e2], ?_⟩
    rw [d0, e3]
    simp [bksL]
theorem bks_lt {l : List UInt8} : ∀ (k : Nat) (g : Gs) (acc : List Nat), g.r.at_ ≤ l.length → (∀ n ∈ acc, n < 18446744073709551616) → ∀ n ∈ (gBks l k g acc).1, n < 18446744073709551616
  | 0, g, acc, _, h => h
  | k + 1, g, acc, hat, h => bks_lt k _ _ (num_at hat) (fun n hn => by
      rcases List.mem_append.1 hn with hn | hn
      · exact h n hn
      · obtain rfl : n = (gNum l g).1 := by simpa using hn
        exact num_lt hat)
theorem bks_len {l : List UInt8} : ∀ (k : Nat) (g : Gs) (acc : List Nat), (gBks l k g acc).1.length = acc.length + k
  | 0, g, acc => rfl
  | k + 1, g, acc => by rw [gBks, bks_len k]; simp; omega
theorem overN_back {n : Nat} (h : n ≤ 1) : overN (n == 1) = n := by
  rcases Nat.lt_or_ge n 1 with h1 | h1
  · obtain rfl : n = 0 := by omega
    rfl
  · obtain rfl : n = 1 := by omega
    rfl
theorem head_at {l : List UInt8} {g : Gs} (h : g.r.at_ ≤ l.length) : (gHead l g).2.r.at_ ≤ l.length := by
  unfold gHead
  exact up_at (num_at (num_at (num_at (num_at (up_at (text_at h))))))
theorem row_at {l : List UInt8} {g : Gs} (h : g.r.at_ ≤ l.length) : (gRow l g).2.r.at_ ≤ l.length := by
  unfold gRow
  exact bks_at _ _ _ (up_at (head_at h))
theorem row_fit {l : List UInt8} {g : Gs} (h : g.r.at_ ≤ l.length) : FitR (gRow l g).1 := by
  have ha := text_at h
  have hb := up_at (m := 3) ha
  have hc := num_at hb
  have hd := num_at hc
  have he := num_at hd
  have hf := num_at he
  have hh := head_at h
  have u1 := unfold_bounds (num_lt hc)
  have u2 := unfold_bounds (num_lt hd)
  have u3 := unfold_bounds (num_lt he)
  exact ⟨num_lt hb, u1.1, u1.2, u2.1, u2.2, u3.1, u3.2, bks_lt _ _ _ (up_at hh) (fun n hn => by simp at hn)⟩
theorem back_row {l : List UInt8} {g : Gs} (hat : g.r.at_ ≤ l.length) (h : Clean l (gRow l g).2) :
    Clean l g ∧ l.drop g.r.at_ = rowL (gRow l g).1 ++ l.drop (gRow l g).2.r.at_ := by
  have ha := text_at hat
  have hb := up_at (m := 3) ha
  have hc := num_at hb
  have hd := num_at hc
  have he := num_at hd
  have hf := num_at he
  have hh := head_at hat
  unfold gRow at h ⊢
  simp only at h ⊢
  obtain ⟨cm, bs, et, el, dt⟩ := back_bks _ _ _ (up_at hh) h
  obtain ⟨ch, dm⟩ := back_up hh cm
  rw [List.nil_append] at et
  unfold gHead at ch dm et dt el ⊢
  simp only at ch dm et dt el ⊢
  have lo := gUp_le l 1 (gNum l (gNum l (gNum l (gNum l (gUp l 3 (gText l g).2).2).2).2).2).2
  obtain ⟨cf, do_⟩ := back_up hf ch
  obtain ⟨ce, df⟩ := back_n he cf
  obtain ⟨cd, de⟩ := back_n hd ce
  obtain ⟨cc, dd⟩ := back_n hc cd
  obtain ⟨cb, dc⟩ := back_n hb cc
  obtain ⟨ca, db⟩ := back_up ha cb
  obtain ⟨c0, da, _⟩ := back_text hat ca
  refine ⟨c0, ?_⟩
  unfold rowL rowHead
  simp only
  rw [et, da, db, dc, dd, de, df, do_, dm, dt, fold_unfold, fold_unfold, fold_unfold, overN_back lo, el]
  simp only [List.append_assoc, Int.toNat_natCast]
theorem rows_at {l : List UInt8} : ∀ (k : Nat) (g : Gs) (acc : List Rw), g.r.at_ ≤ l.length → (gRows l k g acc).2.r.at_ ≤ l.length
  | 0, g, acc, h => h
  | k + 1, g, acc, h => rows_at k _ _ (row_at h)
theorem rows_fit {l : List UInt8} : ∀ (k : Nat) (g : Gs) (acc : List Rw), g.r.at_ ≤ l.length → (∀ r ∈ acc, FitR r) → ∀ r ∈ (gRows l k g acc).1, FitR r
  | 0, g, acc, _, h => h
  | k + 1, g, acc, hat, h => rows_fit k _ _ (row_at hat) (fun r hr => by
      rcases List.mem_append.1 hr with hr | hr
      · exact h r hr
      · obtain rfl : r = (gRow l g).1 := by simpa using hr
        exact row_fit hat)
theorem rows_len {l : List UInt8} : ∀ (k : Nat) (g : Gs) (acc : List Rw), (gRows l k g acc).1.length = acc.length + k
  | 0, g, acc => rfl
  | k + 1, g, acc => by rw [gRows, rows_len k]; simp; omega
theorem back_rows {l : List UInt8} : ∀ (k : Nat) (g : Gs) (acc : List Rw), g.r.at_ ≤ l.length → Clean l (gRows l k g acc).2 →
    Clean l g ∧ ∃ rs, (gRows l k g acc).1 = acc ++ rs ∧ rs.length = k ∧ l.drop g.r.at_ = rowsL rs ++ l.drop (gRows l k g acc).2.r.at_
  | 0, g, acc, hat, h => ⟨h, [], by simp [gRows], rfl, by simp [gRows, rowsL]⟩
  | k + 1, g, acc, hat, h => by
    rw [gRows] at h ⊢
    obtain ⟨c1, rs, e1, e2, e3⟩ := back_rows k _ _ (row_at hat) h
    obtain ⟨c0, d0⟩ := back_row hat c1
    refine ⟨c0, (gRow l g).1 :: rs, by rw [e1]; simp, by simp [e2], ?_⟩
    rw [d0, e3]
    simp [rowsL]
theorem batch_at (l : List UInt8) : (gBatch l).2.r.at_ ≤ l.length := by
  unfold gBatch
  exact rows_at _ _ _ (up_at (up_at (up_at (Nat.zero_le _))))
theorem batch_fit (l : List UInt8) : (∀ r ∈ (gBatch l).1.rows, FitR r) ∧ 0 ≤ (gBatch l).1.seq ∧ (gBatch l).1.seq ≤ 2147483647 ∧ 0 ≤ (gBatch l).1.start ∧ (gBatch l).1.start ≤ 1099511627776 ∧ (gBatch l).1.rows.length ≤ 200 := by
  unfold gBatch
  simp only
  have h1 := gUp_le l 2147483647 g0
  have h2 := gUp_le l 1099511627776 (gUp l 2147483647 g0).2
  have h3 := gUp_le l 200 (gUp l 1099511627776 (gUp l 2147483647 g0).2).2
  refine ⟨rows_fit _ _ _ (up_at (up_at (up_at (Nat.zero_le _)))) (fun r hr => by simp at hr), by omega, by omega, by omega, by omega, ?_⟩
  rw [rows_len]
  simp
  exact h3
theorem rsEnd_none {l : List UInt8} {r : Rs} (h : rsEnd l r = none) : r.bad = false ∧ r.at_ = l.length := by
  unfold rsEnd at h
  split at h
  · assumption
  · cases h
theorem put_get {l : List UInt8} (h1 : (gBatch l).2.bey = false) (h2 : rsEnd l (gBatch l).2.r = none) : putL (gBatch l).1 = l := by
  obtain ⟨e1, e2⟩ := rsEnd_none h2
  have hc : Clean l (gBatch l).2 := ⟨h1, e1, batch_at l⟩
  unfold gBatch at hc e2 ⊢
  simp only at hc e2 ⊢
  have ha := up_at (l := l) (m := 2147483647) (g := g0) (Nat.zero_le _)
  have hb := up_at (m := 1099511627776) ha
  have hcc := up_at (m := 200) hb
  obtain ⟨cc, rs, er, el, dr⟩ := back_rows _ _ _ hcc hc
  obtain ⟨cb, dc⟩ := back_up hb cc
  obtain ⟨ca, db⟩ := back_up ha cb
  obtain ⟨c0, da⟩ := back_up (Nat.zero_le _) ca
  rw [e2] at dr
  rw [List.nil_append] at er
  unfold putL putHead
  simp only
  rw [er, el]
  rw [List.drop_length, List.append_nil] at dr
  rw [dr] at dc
  rw [dc] at db
  rw [db] at da
  simp only [Int.toNat_natCast, List.append_assoc]
  exact da.symm
end Go.Proofs.YtgeahpfdaehjaaaGreatDoor
namespace Go.Proofs.YtgeahpfdaehjaaaGreatDoor
open Go.ChangeShapes Go.WideShapes Go.ChangeAt Go.RowKit
set_option linter.unusedVariables false

/-- A slice of numbers, nil or not, that reads as this list. -/
structure RdN (w : World) (A : Option Addr) (cap : Nat) (l : List Nat) : Prop where
  le : l.length ≤ cap
  nn : A = none → cap = 0
  rd : ∀ ad, A = some ad → ∀ (i n : Nat), l[i]? = some n → w.cell? (ad.add i) = some (.int .u64 (n : Nat))
theorem RdN.nil (w : World) : RdN w none 0 [] := ⟨Nat.le_refl _, fun _ => rfl, fun _ h => by cases h⟩
theorem RdN.below {w w' : World} {B : Nat} {A : Option Addr} {cap : Nat} {l : List Nat} (h : RdN w A cap l) (hb : Below B w w') (hB : w.heap.size ≤ B) : RdN w' A cap l :=
  ⟨h.le, h.nn, fun ad ha i c hc => by
    have h1 := h.rd ad ha i c hc
    have h2 := World.block_lt_of_cell? w _ h1
    rw [hb.cell (by omega)]; exact h1⟩
theorem RdN.alloc {w : World} {A : Option Addr} {cap : Nat} {l : List Nat} (h : RdN w A cap l) (o : Obj) : RdN (w.alloc o) A cap l :=
  h.below ((Below.refl w.heap.size w).alloc (Nat.le_refl _) o) (Nat.le_refl _)
theorem RdN.drew {w : World} {A : Option Addr} {cap : Nat} {l : List Nat} (h : RdN w A cap l) (n : Nat) : RdN (w.drewN n) A cap l := ⟨h.le, h.nn, h.rd⟩
theorem RdN.some_of {w : World} {A : Option Addr} {cap : Nat} {l : List Nat} (h : RdN w A cap l) (hl : 0 < l.length) : ∃ ad, A = some ad := by
  cases A with
  | none => have := h.nn rfl; have := h.le; omega
  | some ad => exact ⟨ad, rfl⟩

/-- A row as a value, its cells. -/
def rowOf (r : Rw) (B : Option Addr) (c : Nat) : List Value := [.string r.key, .int .i64 r.kind, .int .u64 (r.many : Nat), .int .i64 r.sum, .int .i64 r.least, .int .i64 r.most, .bool r.over, .slice B r.bks.length c]
def rowVal (r : Rw) (B : Option Addr) (c : Nat) : Value := .agg #[.string r.key, .int .i64 r.kind, .int .u64 (r.many : Nat), .int .i64 r.sum, .int .i64 r.least, .int .i64 r.most, .bool r.over, .slice B r.bks.length c]
def rowObj (r : Rw) (B : Option Addr) (c : Nat) : Obj := .cells #[.string r.key, .int .i64 r.kind, .int .u64 (r.many : Nat), .int .i64 r.sum, .int .i64 r.least, .int .i64 r.most, .bool r.over, .slice B r.bks.length c] 123
/-- A row's cells from place k of block b on, and its buckets. -/
structure RowAt (w : World) (b k : Nat) (r : Rw) (B : Option Addr) (c : Nat) : Prop where
  p0 : w.cell? ⟨b, k, none⟩ = some (.string r.key)
  p1 : w.cell? ⟨b, k + 1, none⟩ = some (.int .i64 r.kind)
  p2 : w.cell? ⟨b, k + 2, none⟩ = some (.int .u64 (r.many : Nat))
  p3 : w.cell? ⟨b, k + 3, none⟩ = some (.int .i64 r.sum)
  p4 : w.cell? ⟨b, k + 4, none⟩ = some (.int .i64 r.least)
  p5 : w.cell? ⟨b, k + 5, none⟩ = some (.int .i64 r.most)
  p6 : w.cell? ⟨b, k + 6, none⟩ = some (.bool r.over)
  p7 : w.cell? ⟨b, k + 7, none⟩ = some (.slice B r.bks.length c)
  bk : RdN w B c r.bks
theorem RowAt.below {w w' : World} {N b k : Nat} {r : Rw} {B : Option Addr} {c : Nat} (h : RowAt w b k r B c) (hb : Below N w w') (hN : w.heap.size ≤ N) : RowAt w' b k r B c := by
  have hl := World.block_lt_of_cell? w _ h.p0
  have hk : ∀ o, w'.cell? ⟨b, o, none⟩ = w.cell? ⟨b, o, none⟩ := fun o => hb.cell (p := ⟨b, o, none⟩) (Nat.lt_of_lt_of_le hl hN)
  exact ⟨by rw [hk]; exact h.p0, by rw [hk]; exact h.p1, by rw [hk]; exact h.p2, by rw [hk]; exact h.p3, by rw [hk]; exact h.p4, by rw [hk]; exact h.p5, by rw [hk]; exact h.p6, by rw [hk]; exact h.p7, h.bk.below hb hN⟩
theorem RowAt.drew {w : World} {b k : Nat} {r : Rw} {B : Option Addr} {c : Nat} (h : RowAt w b k r B c) (n : Nat) : RowAt (w.drewN n) b k r B c :=
  ⟨h.p0, h.p1, h.p2, h.p3, h.p4, h.p5, h.p6, h.p7, h.bk.drew n⟩
/-- Rows, wherever they lie. -/
def RdR (w : World) (A : Option Addr) (rows : List Rw) : Prop :=
  rows = [] ∨ ∃ b o, A = some ⟨b, o, none⟩ ∧ ∀ i r, rows[i]? = some r → ∃ B c, RowAt w b (o + i * 8) r B c
theorem RdR.nil (w : World) (A : Option Addr) : RdR w A [] := .inl rfl
theorem RdR.below {w w' : World} {N : Nat} {A : Option Addr} {rows : List Rw} (h : RdR w A rows) (hb : Below N w w') (hN : w.heap.size ≤ N) : RdR w' A rows := by
  rcases h with h | ⟨b, o, e, hc⟩
  · exact .inl h
  · exact .inr ⟨b, o, e, fun i r hi => by obtain ⟨B, c, ha⟩ := hc i r hi; exact ⟨B, c, ha.below hb hN⟩⟩
theorem RdR.alloc {w : World} {A : Option Addr} {rows : List Rw} (h : RdR w A rows) (x : Obj) : RdR (w.alloc x) A rows := h.below ((Below.refl _ _).alloc (Nat.le_refl _) _) (Nat.le_refl _)
theorem RdR.drew {w : World} {A : Option Addr} {rows : List Rw} (h : RdR w A rows) (n : Nat) : RdR (w.drewN n) A rows := by
  rcases h with h | ⟨b, o, e, hc⟩
  · exact .inl h
  · exact .inr ⟨b, o, e, fun i r hi => by obtain ⟨B, c, ha⟩ := hc i r hi; exact ⟨B, c, ha.drew n⟩⟩
theorem RdR.at {w : World} {A : Option Addr} {rows : List Rw} (h : RdR w A rows) {i : Nat} {r : Rw} (hi : rows[i]? = some r) : ∃ b o B c, A = some ⟨b, o, none⟩ ∧ RowAt w b (o + i * 8) r B c := by
  rcases h with h0 | ⟨b, o, e, hc⟩
  · rw [h0] at hi; simp at hi
  · obtain ⟨B, c, ha⟩ := hc i r hi
    exact ⟨b, o, B, c, e, ha⟩

/-- A block that holds a row. -/
structure RowB (w : World) (g : Nat) (r : Rw) (B : Option Addr) (c : Nat) : Prop where
  blk : w.heap[g]? = some (.cells #[.string r.key, .int .i64 r.kind, .int .u64 (r.many : Nat), .int .i64 r.sum, .int .i64 r.least, .int .i64 r.most, .bool r.over, .slice B r.bks.length c] 123 (0, 0))
section
variable {w w' : World} {g : Nat} {r : Rw} {B : Option Addr} {c : Nat}
theorem RowB.c0 (h : RowB w g r B c) : w.cell? ⟨g, 0, none⟩ = some (.string r.key) := cell_of_block h.blk
theorem RowB.c1 (h : RowB w g r B c) : w.cell? ⟨g, 1, none⟩ = some (.int .i64 r.kind) := cell_of_block h.blk
theorem RowB.c2 (h : RowB w g r B c) : w.cell? ⟨g, 2, none⟩ = some (.int .u64 (r.many : Nat)) := cell_of_block h.blk
theorem RowB.c3 (h : RowB w g r B c) : w.cell? ⟨g, 3, none⟩ = some (.int .i64 r.sum) := cell_of_block h.blk
theorem RowB.c4 (h : RowB w g r B c) : w.cell? ⟨g, 4, none⟩ = some (.int .i64 r.least) := cell_of_block h.blk
theorem RowB.c5 (h : RowB w g r B c) : w.cell? ⟨g, 5, none⟩ = some (.int .i64 r.most) := cell_of_block h.blk
theorem RowB.c6 (h : RowB w g r B c) : w.cell? ⟨g, 6, none⟩ = some (.bool r.over) := cell_of_block h.blk
theorem RowB.c7 (h : RowB w g r B c) : w.cell? ⟨g, 7, none⟩ = some (.slice B r.bks.length c) := cell_of_block h.blk
theorem RowB.f (h : RowB w g r B c) (o : Nat) : w.frozen? ⟨g, o, none⟩ = false := frozen_of_block h.blk
theorem RowB.lt (h : RowB w g r B c) : g < w.heap.size := lt_of_block h.blk
theorem RowB.new (w : World) (r : Rw) (B : Option Addr) (c : Nat) : RowB (w.alloc (rowObj r B c)) w.heap.size r B c := ⟨heap_alloc_new w _⟩
theorem RowB.below {N : Nat} (h : RowB w g r B c) (hb : Below N w w') (hN : w.heap.size ≤ N) : RowB w' g r B c := ⟨by rw [hb.block _ (Nat.lt_of_lt_of_le h.lt hN)]; exact h.blk⟩
theorem RowB.alloc (h : RowB w g r B c) (o : Obj) : RowB (w.alloc o) g r B c := h.below ((Below.refl _ _).alloc (Nat.le_refl _) _) (Nat.le_refl _)
theorem RowB.at (h : RowB w g r B c) (hb : RdN w B c r.bks) : RowAt w g 0 r B c := ⟨h.c0, h.c1, h.c2, h.c3, h.c4, h.c5, h.c6, h.c7, hb⟩
end
/-- A batch as a value, and a block that holds it. -/
def btVal (s t : Int) (A : Option Addr) (n c : Nat) : Value := .agg #[.int .i64 s, .int .i64 t, .slice A n c]
structure BtB (w : World) (g : Nat) (s t : Int) (A : Option Addr) (n c : Nat) : Prop where
  blk : w.heap[g]? = some (.cells #[.int .i64 s, .int .i64 t, .slice A n c] 60 (0, 0))
section
variable {w w' : World} {g : Nat} {s t : Int} {A : Option Addr} {n c : Nat}
theorem BtB.c0 (h : BtB w g s t A n c) : w.cell? ⟨g, 0, none⟩ = some (.int .i64 s) := cell_of_block h.blk
theorem BtB.c1 (h : BtB w g s t A n c) : w.cell? ⟨g, 1, none⟩ = some (.int .i64 t) := cell_of_block h.blk
theorem BtB.c2 (h : BtB w g s t A n c) : w.cell? ⟨g, 2, none⟩ = some (.slice A n c) := cell_of_block h.blk
theorem BtB.f (h : BtB w g s t A n c) (o : Nat) : w.frozen? ⟨g, o, none⟩ = false := frozen_of_block h.blk
theorem BtB.lt (h : BtB w g s t A n c) : g < w.heap.size := lt_of_block h.blk
theorem BtB.new (w : World) (s t : Int) (A : Option Addr) (n c : Nat) : BtB (w.alloc (.cells #[.int .i64 s, .int .i64 t, .slice A n c] 60)) w.heap.size s t A n c := ⟨heap_alloc_new w _⟩
theorem BtB.below {N : Nat} (h : BtB w g s t A n c) (hb : Below N w w') (hN : w.heap.size ≤ N) : BtB w' g s t A n c := ⟨by rw [hb.block _ (Nat.lt_of_lt_of_le h.lt hN)]; exact h.blk⟩
theorem BtB.alloc (h : BtB w g s t A n c) (o : Obj) : BtB (w.alloc o) g s t A n c := h.below ((Below.refl _ _).alloc (Nat.le_refl _) _) (Nat.le_refl _)
theorem BtB.drew (h : BtB w g s t A n c) (k : Nat) : BtB (w.drewN k) g s t A n c := ⟨h.blk⟩
theorem BtB.grown (h : BtB w g s t A n c) {r : Option Nat} (hg : w.grownBy w' r) (hr : r ≠ some g) : BtB w' g s t A n c := ⟨by rw [hg.block _ h.lt (fun e => hr e.symm)]; exact h.blk⟩
theorem RowB.grown {r : Rw} {B : Option Addr} {c : Nat} (h : RowB w g r B c) {q : Option Nat} (hg : w.grownBy w' q) (hr : q ≠ some g) : RowB w' g r B c := ⟨by rw [hg.block _ h.lt (fun e => hr e.symm)]; exact h.blk⟩
end

/-- Numbers in a row of one's own. -/
def natCells (l : List Nat) : List Value := l.map fun (n : Nat) => .int .u64 (n : Nat)
def OwnN (w : World) (base : Nat) (A : Option Addr) (cap : Nat) (l : List Nat) : Prop := w.ownsRow base 120 1 (.slice A l.length cap) l.length (natCells l)
theorem OwnN.nil (w : World) (base : Nat) : OwnN w base none 0 [] := World.ownsRow_nil w base _ 1
/-- What owns a row of one kind keeps it while a row of another kind, or none, grows. -/
theorem owns_kept {w w' : World} {base : Nat} {e : TypeId} {sz : Nat} {v : Value} {n : Nat} {l : List Value} (h : w.ownsRow base e sz v n l) {q : Option Nat} (g : w.grownBy w' q)
    (hq : ∀ b, q = some b → b < base ∨ (∃ c f t, w.heap[b]? = some (.cells c t f) ∧ t ≠ e)) : w'.ownsRow base e sz v n l := by
  refine World.ownsRow.kept h g ?_
  rcases h.2 with ⟨rfl, _⟩ | ⟨k, cap, cur, rfl, hk, hc, _⟩
  · exact .inl rfl
  · refine .inr fun e' => ?_
    simp only [Value.ownBlock] at e'
    rcases hq k e'.symm with h1 | ⟨c, f, t, h1, h2⟩
    · omega
    · rw [hc] at h1
      cases h1
      exact h2 rfl
theorem ownsB_block {w : World} {base : Nat} {e : TypeId} {sz : Nat} {v : Value} {n : Nat} {l : List Value} (h : w.ownsRow base e sz v n l) : ∀ b, v.ownBlock = some b → ∃ c f, w.heap[b]? = some (.cells c e f) := by
  intro b hb
  rcases h.2 with ⟨rfl, _⟩ | ⟨k, cap, cur, rfl, hk, hc, _⟩
  · cases hb
  · simp only [Value.ownBlock, Option.some.injEq] at hb
    subst hb
    exact ⟨_, _, hc⟩
theorem ownsB_mono {w : World} {base base' : Nat} {e : TypeId} {sz : Nat} {v : Value} {n : Nat} {l : List Value} (h : w.ownsRow base e sz v n l) (hb : base' ≤ base) : w.ownsRow base' e sz v n l := by
  refine ⟨h.1, ?_⟩
  rcases h.2 with hn | ⟨g, cap, cur, hv, hg, r⟩
  · exact .inl hn
  · exact .inr ⟨g, cap, cur, hv, Nat.le_trans hb hg, r⟩
theorem owns_below {w w' : World} {base : Nat} {e : TypeId} {sz : Nat} {v : Value} {n : Nat} {l : List Value} (h : w.ownsRow base e sz v n l) (hb : Below w.heap.size w w') : w'.ownsRow base e sz v n l :=
  owns_kept h (grown_of (r := none) hb) (fun _ e => by cases e)
theorem OwnN.rd {w : World} {base : Nat} {A : Option Addr} {cap : Nat} {l : List Nat} (h : OwnN w base A cap l) : RdN w A cap l := by
  rcases h.2 with ⟨hv, hn⟩ | ⟨g, cap', cur, hv, hb, hg, hnc, hcm, hcs, htake⟩
  · obtain rfl := List.eq_nil_of_length_eq_zero hn
    cases hv
    exact RdN.nil w
  · have hA : A = some ⟨g, 0, none⟩ := by cases hv; rfl
    have hc : cap = cap' := by cases hv; rfl
    subst hA hc
    refine ⟨hnc, (fun e => by cases e), fun ad ha i n hi => ?_⟩
    cases ha
    exact World.ownsRow.cells h (g := g) rfl i _ (by unfold natCells; rw [List.getElem?_map, hi]; rfl)
theorem infoN : (Tryz.prog.info? 120).map (fun i => (i.zero, i.size, i.bytes)) = some (some (.int .u64 0), 1, 8) := by kernel_rfl
theorem append_nat {w : World} {base : Nat} {A : Option Addr} {cap : Nat} {l : List Nat} (n : Nat) (h : OwnN w base A cap l) (hb : base ≤ w.heap.size) (hl : l.length ≤ 1000) :
    ∃ A' cap' w', (Builtin.append_ #[121, 121] 121 #[.slice A l.length cap, .slice (some ⟨w.heap.size, 0, none⟩) 1 1]).run Tryz.prog (w.alloc (.cells #[.int .u64 (n : Nat)] 120)) = .ok (.slice A' (l.length + 1) cap') w' ∧
      OwnN w' base A' cap' (l ++ [n]) ∧ (w.alloc (.cells #[.int .u64 (n : Nat)] 120)).grownBy w' (Value.slice A l.length cap).ownBlock := by
  cases hi : Tryz.prog.info? 120 with
  | none => have := infoN; rw [hi] at this; cases this
  | some i =>
    have hI := infoN
    rw [hi] at hI
    simp only [Option.map_some, Option.some.injEq, Prod.mk.injEq] at hI
    obtain ⟨hz, hz1, hz2⟩ := hI
    obtain ⟨v', w', hrun, hown, hgr, hnil⟩ := run_append_own (P := Tryz.prog) (w.alloc (.cells #[.int .u64 (n : Nat)] 120)) base 121 121 120 i _ 1 8 Tryz.underlying121 hi hz hz1 hz2 rfl (by omega) _ _ _ (World.ownsRow.alloc h _) ⟨w.heap.size, 0, none⟩ 1 1 [.int .u64 (n : Nat)] rfl
      (fun j u hu => by
        match j, hu with
        | 0, hu => cases hu; simp [Addr.add])
      (fun u hu => by
        simp only [List.mem_cons, List.not_mem_nil, or_false] at hu
        subst hu; rfl)
      (by unfold maxLen; omega) (by omega) (by simp; omega)
    rcases hown.2 with ⟨e, hn0⟩ | ⟨g', cap', cur, rfl, r⟩
    · omega
    · refine ⟨_, _, w', hrun, ?_, hgr⟩
      unfold OwnN
      rw [List.length_append, show natCells (l ++ [n]) = natCells l ++ [.int .u64 (n : Nat)] by simp [natCells]]
      exact hown

/-- Rows in a row of one's own, their buckets in others. -/
def rowCells (l : List (Rw × Option Addr × Nat)) : List Value := l.flatMap fun x => rowOf x.1 x.2.1 x.2.2
structure OwnL (w : World) (base : Nat) (A : Option Addr) (cap : Nat) (l : List (Rw × Option Addr × Nat)) : Prop where
  own : w.ownsRow base 123 8 (.slice A l.length cap) l.length (rowCells l)
  bks : ∀ x ∈ l, OwnN w base x.2.1 x.2.2 x.1.bks
def OwnR (w : World) (base : Nat) (A : Option Addr) (cap : Nat) (rows : List Rw) : Prop := ∃ l, l.map (·.1) = rows ∧ OwnL w base A cap l
theorem OwnR.nil (w : World) (base : Nat) : OwnR w base none 0 [] := ⟨[], rfl, World.ownsRow_nil w base _ 8, fun x h => by simp at h⟩
theorem rowCells_length (l : List (Rw × Option Addr × Nat)) : (rowCells l).length = l.length * 8 := by
  induction l with
  | nil => rfl
  | cons t r ih =>
    rw [rowCells, List.flatMap_cons, List.length_append, List.length_cons]
    have h8 : (rowOf t.1 t.2.1 t.2.2).length = 8 := rfl
    unfold rowCells at ih
    omega
theorem rowCells_at (l : List (Rw × Option Addr × Nat)) : ∀ i x, l[i]? = some x → ∀ j, j < 8 → (rowCells l)[i * 8 + j]? = (rowOf x.1 x.2.1 x.2.2)[j]? := by
  induction l with
  | nil => intro i x h; simp at h
  | cons t r ih =>
    intro i x h j hj
    have h8 : (rowOf t.1 t.2.1 t.2.2).length = 8 := rfl
    cases i with
    | zero =>
      simp at h
      subst h
      rw [rowCells, List.flatMap_cons, Nat.zero_mul, Nat.zero_add, List.getElem?_append_left (by omega)]
    | succ i =>
      have h' : r[i]? = some x := by simpa using h
      have := ih i x h' j hj
      rw [rowCells, List.flatMap_cons, List.getElem?_append_right (by omega), h8, show (i + 1) * 8 + j - 8 = i * 8 + j by omega]
      exact this
theorem OwnR.rd {w : World} {base : Nat} {A : Option Addr} {cap : Nat} {rows : List Rw} (h : OwnR w base A cap rows) : RdR w A rows := by
  obtain ⟨l, rfl, h, hN⟩ := h
  rcases h.2 with ⟨hv, hn⟩ | ⟨g, cap', cur, hv, hb, hg, hnc, hcm, hcs, htake⟩
  · exact .inl (by rw [List.eq_nil_of_length_eq_zero hn]; rfl)
  · have hA : A = some ⟨g, 0, none⟩ := by cases hv; rfl
    refine .inr ⟨g, 0, hA, fun i r hi => ?_⟩
    rw [List.getElem?_map] at hi
    cases hx : l[i]? with
    | none => rw [hx] at hi; cases hi
    | some x =>
      rw [hx] at hi
      obtain rfl := Option.some.inj hi
      have hi' : i < l.length := (List.getElem?_eq_some_iff.1 hx).1
      have hlen := rowCells_length l
      have hc : ∀ j, j < 8 → w.cell? ⟨g, 0 + i * 8 + j, none⟩ = (rowOf x.1 x.2.1 x.2.2)[j]? := fun j hj => by
        rw [cell_of_block hg, Nat.zero_add, ← rowCells_at l i x hx j hj, ← htake, List.getElem?_take, if_pos (by omega)]
        simp
      exact ⟨x.2.1, x.2.2, hc 0 (by omega), hc 1 (by omega), hc 2 (by omega), hc 3 (by omega), hc 4 (by omega), hc 5 (by omega), hc 6 (by omega), hc 7 (by omega), (hN x (List.mem_of_getElem? hx)).rd⟩
theorem infoR : (Tryz.prog.info? 123).map (fun i => (i.zero, i.size, i.bytes)) = some (some (.agg #[.string ⟨#[]⟩, .int .i64 0, .int .u64 0, .int .i64 0, .int .i64 0, .int .i64 0, .bool false, .slice none 0 0]), 8, 88) := by kernel_rfl
/-- What becomes of a world while rows of one's own grow: blocks of numbers stay, too. -/
theorem OwnR.kept {w w' : World} {base : Nat} {A : Option Addr} {cap : Nat} {rows : List Rw} (h : OwnR w base A cap rows) {q : Option Nat} (g : w.grownBy w' q)
    (hq : ∀ b, q = some b → b < base ∨ (∃ c f t, w.heap[b]? = some (.cells c t f) ∧ t ≠ 123 ∧ t ≠ 120)) : OwnR w' base A cap rows := by
  obtain ⟨l, e, h1, h2⟩ := h
  refine ⟨l, e, owns_kept h1 g (fun b hb => (hq b hb).imp id (fun ⟨c, f, t, a, b, _⟩ => ⟨c, f, t, a, b⟩)), fun x hx => owns_kept (h2 x hx) g (fun b hb => (hq b hb).imp id (fun ⟨c, f, t, a, _, b⟩ => ⟨c, f, t, a, b⟩))⟩
theorem OwnR.below {w w' : World} {base : Nat} {A : Option Addr} {cap : Nat} {rows : List Rw} (h : OwnR w base A cap rows) (hb : Below w.heap.size w w') : OwnR w' base A cap rows :=
  h.kept (grown_of (r := none) hb) (fun _ e => by cases e)
theorem OwnR.mono {w : World} {base base' : Nat} {A : Option Addr} {cap : Nat} {rows : List Rw} (h : OwnR w base A cap rows) (hb : base' ≤ base) : OwnR w base' A cap rows := by
  obtain ⟨l, e, h1, h2⟩ := h
  exact ⟨l, e, ownsB_mono h1 hb, fun x hx => ownsB_mono (h2 x hx) hb⟩
theorem OwnR.far {w : World} {base : Nat} {A : Option Addr} {cap : Nat} {rows : List Rw} (h : OwnR w base A cap rows) : ∀ b, (Value.slice A rows.length cap).ownBlock = some b → base ≤ b ∧ b < w.heap.size ∧ ∃ c f, w.heap[b]? = some (.cells c 123 f) := by
  obtain ⟨l, rfl, h1, _⟩ := h
  rw [List.length_map]
  exact fun b hb => ⟨(World.ownsRow.lt h1 b hb).1, (World.ownsRow.lt h1 b hb).2, ownsB_block h1 b hb⟩
set_option maxHeartbeats 1000000 in
theorem append_row {w : World} {base : Nat} {A : Option Addr} {cap : Nat} {rows : List Rw} (r : Rw) (B : Option Addr) (c : Nat) (h : OwnR w base A cap rows) (hN : OwnN w base B c r.bks) (hb : base ≤ w.heap.size) (hl : rows.length ≤ 1000) :
    ∃ A' cap' w', (Builtin.append_ #[58, 58] 58 #[.slice A rows.length cap, .slice (some ⟨w.heap.size, 0, none⟩) 1 1]).run Tryz.prog (w.alloc (rowObj r B c)) = .ok (.slice A' (rows.length + 1) cap') w' ∧
      OwnR w' base A' cap' (rows ++ [r]) ∧ (w.alloc (rowObj r B c)).grownBy w' (Value.slice A rows.length cap).ownBlock := by
  have hfar := h.far
  obtain ⟨l, rfl, h1, h2⟩ := h
  rw [List.length_map] at hl hfar ⊢
  cases hi : Tryz.prog.info? 123 with
  | none => have := infoR; rw [hi] at this; cases this
  | some i =>
    have hI := infoR
    rw [hi] at hI
    simp only [Option.map_some, Option.some.injEq, Prod.mk.injEq] at hI
    obtain ⟨hz, hz1, hz2⟩ := hI
    obtain ⟨v', w', hrun, hown, hgr, hnil⟩ := run_append_own (P := Tryz.prog) (w.alloc (rowObj r B c)) base 58 58 123 i _ 8 88 Tryz.underlying58 hi hz hz1 hz2 rfl (by omega) _ _ _ (World.ownsRow.alloc h1 _) ⟨w.heap.size, 0, none⟩ 1 1 (rowOf r B c) rfl
      (fun j u hu => by
        rw [show (⟨w.heap.size, 0, none⟩ : Addr).add j = ⟨w.heap.size, j, none⟩ by simp [Addr.add_lit], cell_of_block (heap_alloc_new w (rowObj r B c))]
        simpa [rowOf] using hu)
      (fun u hu => by
        simp only [rowOf, List.mem_cons, List.not_mem_nil, or_false] at hu
        rcases hu with rfl | rfl | rfl | rfl | rfl | rfl | rfl | rfl <;> rfl)
      (by unfold maxLen; omega) (by omega) (by simp; omega)
    have hk : ∀ b, (Value.slice A l.length cap).ownBlock = some b → b < base ∨ ∃ c' f t, (w.alloc (rowObj r B c)).heap[b]? = some (.cells c' t f) ∧ t ≠ 120 := fun b hb0 => by
      obtain ⟨_, h4, c', f, h5⟩ := hfar b hb0
      exact .inr ⟨c', f, 123, by rw [(World.grownBy_alloc w _ none).block b h4 (by simp)]; exact h5, by decide⟩
    rcases hown.2 with ⟨e, hn0⟩ | ⟨g', cap', cur, rfl, rr⟩
    · omega
    · refine ⟨_, _, w', hrun, ⟨l ++ [(r, B, c)], by simp, ?_, ?_⟩, hgr⟩
      · rw [List.length_append, show rowCells (l ++ [(r, B, c)]) = rowCells l ++ rowOf r B c by simp [rowCells]]
        exact hown
      · intro x hx
        rcases List.mem_append.1 hx with hx | hx
        · exact owns_kept (World.ownsRow.alloc (h2 x hx) _) hgr hk
        · obtain rfl : x = (r, B, c) := by simpa using hx
          exact owns_kept (World.ownsRow.alloc hN _) hgr hk
end Go.Proofs.YtgeahpfdaehjaaaGreatDoor
