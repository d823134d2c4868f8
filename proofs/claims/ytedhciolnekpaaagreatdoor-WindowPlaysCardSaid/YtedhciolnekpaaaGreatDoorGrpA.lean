/-
  Layer 6 (wire), what is of no program: a number's bytes, a whole number's, a text's; and how bytes are read.
  Layer 7 (batch), of no program: a batch's bytes, how they are read, and that both fit each other.
  The frame of every law's proof: where the walk returns true and turns nothing that was there, the row's own step follows, whatever the arguments' types.
  What the calls of layer 1 (sat) and the document's own answers return, at every two whole numbers that fit their kind.
  Layer 18 (tally), of no program: a value's bucket; a row to which a value comes; the row of many values.
  Layer 20 (window), of no program: a table as all its values in a list; when its windows begin, and each one's rows.
  Layer 20 (window), of no program: how many values a window's rows have; how many windows, and rows; that a row may be.
  Memory: what a world keeps while one block of it (a reader's) is written and new blocks are laid.
  Rows of bytes of one's own, appended to by strings, by bytes that are laid for it and by bytes that lie elsewhere; blocks of another kind stay.
  Rows of one's own of any kind of element, and slices that can be read, as cells: append, and what is cut.
  What is left alone: all blocks but those of a set (Keeps); what becomes of a thing with blocks of its own (Mv8).
  Layer 20 (window): the document's table behind a pointer, its values in a list; rows of whole numbers of one's own.
  Layer 6 (wire): the small functions on numbers, the program's and the document's own, and the laws' pick.
  Layer 6 (wire): put, Number, Whole, Text: rows of bytes of their own.
  Layer 7 (batch): a batch in memory: rows and their buckets, read wherever they lie, and owned.
  Layer 18 (tally): a row behind a pointer, its buckets in a row of one's own.
-/
import Derived.Test.YtedhciolnekpaaaGreatDoorRows
import Derived.WalkKit
import Derived.ProofKit
import Derived.OpenShut
import Derived.JoinedCond
import Derived.Lib.Hide
import Derived.Lib.BitFns
import Derived.Laws.AppendOwn
import Derived.Deep.QuietTactic
import Derived.Lib.AppendStr
import Derived.Lib.OthersKept
import Derived.Laws.OwnMore
import Derived.Laws.MakeOwn
import Derived.Laws.BytesArg
import Derived.Lib.ConvBytes
import Derived.DataElems
import Derived.LoopTactic
import Derived.BigQuiet
import Derived.Deep.LoopGhost
import Derived.Laws.BitsAllLaws
namespace Go.Proofs.YtedhciolnekpaaaGreatDoor

/-- A number's bytes: seven bits a byte, the lowest first. -/
def enc (n : Nat) : List UInt8 := if n < 128 then [n.toUInt8] else (n % 128 + 128).toUInt8 :: enc (n / 128)
termination_by n
decreasing_by omega
theorem enc_small {n : Nat} (h : n < 128) : enc n = [n.toUInt8] := by rw [enc, if_pos h]
theorem enc_great {n : Nat} (h : 128 ≤ n) : enc n = (n % 128 + 128).toUInt8 :: enc (n / 128) := by rw [enc, if_neg (by omega)]
theorem byte_toNat {n : Nat} (h : n < 256) : n.toUInt8.toNat = n := by
  rw [UInt8.toNat_ofNat']; omega

/-- The number that stands for a whole number; and back. -/
def foldN (n : Int) : Nat := if n < 0 then (2 * (-1 - n) + 1).toNat else (2 * n).toNat
def unfoldN (n : Nat) : Int := if n % 2 = 1 then -1 - (n / 2 : Nat) else (n / 2 : Nat)
theorem unfold_fold (n : Int) : unfoldN (foldN n) = n := by
  unfold unfoldN foldN
  split
  · rename_i h
    rw [if_pos (by omega)]; omega
  · rename_i h
    rw [if_neg (by omega)]; omega
theorem fold_lt {n : Int} (h0 : -9223372036854775808 ≤ n) (h1 : n ≤ 9223372036854775807) : foldN n < 18446744073709551616 := by
  unfold foldN; split <;> omega

/-- A number at the head of a row, from its byte i on; those ahead gave n. How many bytes it has, too. -/
def decF (i n : Nat) : List UInt8 → Option (Nat × Nat)
  | [] => none
  | c :: l =>
    if 10 ≤ i ∨ (i = 9 ∧ 1 < c.toNat) then none
    else if c.toNat < 128 then (if c.toNat = 0 ∧ 0 < i then none else some (n + c.toNat * 128 ^ i, i + 1))
    else decF (i + 1) (n + (c.toNat - 128) * 128 ^ i) l
def decStep (i n : Nat) (c : UInt8) (l : List UInt8) : Option (Nat × Nat) :=
  if 10 ≤ i ∨ (i = 9 ∧ 1 < c.toNat) then none
  else if c.toNat < 128 then (if c.toNat = 0 ∧ 0 < i then none else some (n + c.toNat * 128 ^ i, i + 1))
  else decF (i + 1) (n + (c.toNat - 128) * 128 ^ i) l
theorem dec_nil (i n : Nat) : decF i n [] = none := by rw [decF]
theorem dec_cons (i n : Nat) (c : UInt8) (l : List UInt8) : decF i n (c :: l) = decStep i n c l := by rw [decF, decStep]
theorem dec_at (i n : Nat) (l : List UInt8) (k : Nat) (c : UInt8) (h : l[k]? = some c) : decF i n (l.drop k) = decStep i n c (l.drop (k + 1)) := by
  obtain ⟨hk, hc⟩ := List.getElem?_eq_some_iff.1 h
  rw [List.drop_eq_getElem_cons hk, dec_cons, hc]

theorem pow_split (i : Nat) : 128 ^ (i + 1) = 128 ^ i * 128 := Nat.pow_succ ..
theorem dec_bound : ∀ (l : List UInt8) (i n a k : Nat), n < 128 ^ i → decF i n l = some (a, k) → a < 18446744073709551616 ∧ i < k ∧ k ≤ i + l.length ∧ k ≤ 10
  | [], i, n, a, k, _, h => by rw [dec_nil] at h; cases h
  | c :: l, i, n, a, k, hn, h => by
    rw [dec_cons] at h
    unfold decStep at h
    have hc := UInt8.toNat_lt c
    split at h
    · cases h
    rename_i h1
    have hi : i ≤ 9 := by omega
    split at h
    · rename_i h2
      split at h
      · cases h
      · cases h
        refine ⟨?_, by omega, by simp, by omega⟩
        rcases Nat.lt_or_ge i 9 with h9 | h9
        · have h128 : 128 ^ i ≤ 128 ^ 8 := Nat.pow_le_pow_right (by omega) (by omega)
          have : c.toNat * 128 ^ i ≤ 127 * 128 ^ i := Nat.mul_le_mul_right _ (by omega)
          have e8 : (128 : Nat) ^ 8 = 72057594037927936 := by decide
          omega
        · obtain rfl : i = 9 := by omega
          have e9 : (128 : Nat) ^ 9 = 9223372036854775808 := by decide
          rw [e9] at hn ⊢
          have : c.toNat ≤ 1 := by omega
          have : c.toNat * 9223372036854775808 ≤ 1 * 9223372036854775808 := Nat.mul_le_mul_right _ this
          omega
    · rename_i h2
      have hm : n + (c.toNat - 128) * 128 ^ i < 128 ^ (i + 1) := by
        have : (c.toNat - 128) * 128 ^ i ≤ 127 * 128 ^ i := Nat.mul_le_mul_right _ (by omega)
        rw [pow_split]; omega
      obtain ⟨b1, b2, b3, b4⟩ := dec_bound l (i + 1) _ a k hm h
      exact ⟨b1, by omega, by simp; omega, b4⟩

/-- What was written is read as it was. -/
theorem dec_enc (n : Nat) : ∀ (i a : Nat) (rest : List UInt8), i ≤ 9 → n * 128 ^ i < 18446744073709551616 → (0 < i → 0 < n) →
    decF i a (enc n ++ rest) = some (a + n * 128 ^ i, i + (enc n).length) := by
  induction n using Nat.strongRecOn with
  | ind n ih =>
    intro i a rest hi hn hp
    have e9 : (128 : Nat) ^ 9 = 9223372036854775808 := by decide
    rcases Nat.lt_or_ge n 128 with h | h
    · rw [enc_small h, List.singleton_append, dec_cons]
      unfold decStep
      rw [byte_toNat (by omega)]
      rw [if_neg, if_pos h, if_neg]
      · rfl
      · rintro ⟨h0, h1⟩
        have := hp h1
        omega
      · rintro (h1 | ⟨rfl, h1⟩)
        · omega
        · rw [e9] at hn
          omega
    · have hi8 : i ≤ 8 := by
        rcases Nat.lt_or_ge i 9 with h9 | h9
        · omega
        · obtain rfl : i = 9 := by omega
          rw [e9] at hn
          omega
      rw [enc_great h, List.cons_append, dec_cons]
      unfold decStep
      rw [byte_toNat (by omega), if_neg (by omega), if_neg (by omega)]
      have hs : n / 128 * 128 ^ (i + 1) ≤ n * 128 ^ i := by
        rw [pow_split, Nat.mul_comm (128 ^ i) 128, ← Nat.mul_assoc]
        exact Nat.mul_le_mul_right _ (by omega)
      rw [ih (n / 128) (by omega) (i + 1) _ rest (by omega) (by omega) (fun _ => by omega)]
      congr 1
      refine Prod.ext ?_ ?_
      · simp only
        have e1 : n / 128 * 128 ^ (i + 1) = (128 * (n / 128)) * 128 ^ i := by rw [pow_split, Nat.mul_comm (128 ^ i) 128, ← Nat.mul_assoc, Nat.mul_comm (n / 128) 128]
        rw [e1, show n % 128 + 128 - 128 = n % 128 by omega, Nat.add_assoc, ← Nat.add_mul, Nat.mod_add_div]
      · simp only [List.length_cons]; omega
theorem enc_length (n : Nat) (h : n < 18446744073709551616) : (enc n).length ≤ 10 := by
  have := dec_enc n 0 0 [] (by omega) (by simpa using h) (by omega)
  have := (dec_bound _ 0 0 _ _ (by omega) this).2.2.2
  omega
theorem enc_pos (n : Nat) : 0 < (enc n).length := by
  rcases Nat.lt_or_ge n 128 with h | h
  · rw [enc_small h]; simp
  · rw [enc_great h]; simp

/-- A text's bytes. -/
def encT (s : ByteArray) : List UInt8 := enc s.size ++ s.data.toList

/-- A reader of the row l: where it stands, and whether it is amiss. -/
structure Rs where
  at_ : Nat
  bad : Bool
def rsNum (l : List UInt8) (r : Rs) : Nat × Rs :=
  if r.bad then (0, r)
  else match decF 0 0 (l.drop r.at_) with
    | none => (0, ⟨r.at_, true⟩)
    | some (n, k) => (n, ⟨r.at_ + k, false⟩)
def rsText (l : List UInt8) (most : Int) (r : Rs) : List UInt8 × Rs :=
  if r.bad then ([], r)
  else match decF 0 0 (l.drop r.at_) with
    | none => ([], ⟨r.at_, true⟩)
    | some (n, k) => if most < 0 ∨ most < n ∨ l.length - (r.at_ + k) < n then ([], ⟨r.at_, true⟩) else ((l.drop (r.at_ + k)).take n, ⟨r.at_ + k + n, false⟩)
def rsEnd (l : List UInt8) (r : Rs) : Option Nat := if r.bad = false ∧ r.at_ = l.length then none else some r.at_
theorem rsNum_le {l : List UInt8} {r : Rs} (h : r.at_ ≤ l.length) : (rsNum l r).2.at_ ≤ l.length ∧ (rsNum l r).1 < 18446744073709551616 := by
  unfold rsNum
  split
  · exact ⟨h, by simp⟩
  · split
    · exact ⟨h, by simp⟩
    · rename_i n k hd
      obtain ⟨b1, _, b3, _⟩ := dec_bound _ 0 0 _ _ (by omega) hd
      rw [List.length_drop] at b3
      exact ⟨by simp only; omega, b1⟩
theorem rsText_le {l : List UInt8} {r : Rs} {most : Int} (h : r.at_ ≤ l.length) : (rsText l most r).2.at_ ≤ l.length := by
  unfold rsText
  split
  · exact h
  · split
    · exact h
    · rename_i n k hd
      obtain ⟨_, _, b3, _⟩ := dec_bound _ 0 0 _ _ (by omega) hd
      rw [List.length_drop] at b3
      split
      · exact h
      · simp only; omega
end Go.Proofs.YtedhciolnekpaaaGreatDoor
namespace Go.Proofs.YtedhciolnekpaaaGreatDoor
set_option linter.unusedVariables false

structure Rw where
  key : ByteArray
  kind : Int
  many : Nat
  sum : Int
  least : Int
  most : Int
  over : Bool
  bks : List Nat
structure Bt where
  seq : Int
  start : Int
  rows : List Rw

def overN (b : Bool) : Nat := if b then 1 else 0
def bksL (l : List Nat) : List UInt8 := l.flatMap enc
def rowHead (r : Rw) : List UInt8 := encT r.key ++ enc r.kind.toNat ++ enc r.many ++ enc (foldN r.sum) ++ enc (foldN r.least) ++ enc (foldN r.most) ++ enc (overN r.over) ++ enc r.bks.length
def rowL (r : Rw) : List UInt8 := rowHead r ++ bksL r.bks
def rowsL (l : List Rw) : List UInt8 := l.flatMap rowL
def putHead (b : Bt) : List UInt8 := enc b.seq.toNat ++ enc b.start.toNat ++ enc b.rows.length
def putL (b : Bt) : List UInt8 := putHead b ++ rowsL b.rows

/-- What a machine holds. -/
structure FitR (r : Rw) : Prop where
  many : r.many < 18446744073709551616
  sum0 : -9223372036854775808 ≤ r.sum
  sum1 : r.sum ≤ 9223372036854775807
  least0 : -9223372036854775808 ≤ r.least
  least1 : r.least ≤ 9223372036854775807
  most0 : -9223372036854775808 ≤ r.most
  most1 : r.most ≤ 9223372036854775807
  bks : ∀ n ∈ r.bks, n < 18446744073709551616
/-- What a reader of a batch takes. -/
structure InR (r : Rw) : Prop where
  fit : FitR r
  key : r.key.size ≤ 300
  kind0 : 0 ≤ r.kind
  kind1 : r.kind ≤ 3
  len : r.bks.length ≤ 65
structure InB (b : Bt) : Prop where
  seq0 : 0 ≤ b.seq
  seq1 : b.seq ≤ 2147483647
  start0 : 0 ≤ b.start
  start1 : b.start ≤ 1099511627776
  len : b.rows.length ≤ 200
  rows : ∀ r ∈ b.rows, InR r

/-- A batch's reader: the bytes' reader, and whether something was beyond its limit. -/
structure Gs where
  r : Rs
  bey : Bool
def gNum (l : List UInt8) (g : Gs) : Nat × Gs := ((rsNum l g.r).1, ⟨(rsNum l g.r).2, g.bey⟩)
def gUp (l : List UInt8) (m : Nat) (g : Gs) : Nat × Gs := if m < (rsNum l g.r).1 then (0, ⟨(rsNum l g.r).2, true⟩) else ((rsNum l g.r).1, ⟨(rsNum l g.r).2, g.bey⟩)
def gText (l : List UInt8) (g : Gs) : List UInt8 × Gs := ((rsText l 300 g.r).1, ⟨(rsText l 300 g.r).2, g.bey⟩)
def gBks (l : List UInt8) : Nat → Gs → List Nat → List Nat × Gs
  | 0, g, acc => (acc, g)
  | k + 1, g, acc => gBks l k (gNum l g).2 (acc ++ [(gNum l g).1])
/-- A row ahead of its buckets, and how many there are. -/
def gHead (l : List UInt8) (g : Gs) : Rw × Gs :=
  let a := gText l g
  let b := gUp l 3 a.2
  let c := gNum l b.2
  let d := gNum l c.2
  let e := gNum l d.2
  let f := gNum l e.2
  let o := gUp l 1 f.2
  (⟨⟨a.1.toArray⟩, (b.1 : Nat), c.1, unfoldN d.1, unfoldN e.1, unfoldN f.1, o.1 == 1, []⟩, o.2)
def gRow (l : List UInt8) (g : Gs) : Rw × Gs :=
  let h := gHead l g
  let m := gUp l 65 h.2
  let t := gBks l m.1 m.2 []
  ({ h.1 with bks := t.1 }, t.2)
def gRows (l : List UInt8) : Nat → Gs → List Rw → List Rw × Gs
  | 0, g, acc => (acc, g)
  | k + 1, g, acc => gRows l k (gRow l g).2 (acc ++ [(gRow l g).1])
def g0 : Gs := ⟨⟨0, false⟩, false⟩
def gBatch (l : List UInt8) : Bt × Gs :=
  let a := gUp l 2147483647 g0
  let b := gUp l 1099511627776 a.2
  let c := gUp l 200 b.2
  let t := gRows l c.1 c.2 []
  (⟨(a.1 : Nat), (b.1 : Nat), t.1⟩, t.2)

/-- What was written is read. -/
def Stand (l : List UInt8) (g : Gs) (rest : List UInt8) : Prop := g.bey = false ∧ g.r.bad = false ∧ g.r.at_ ≤ l.length ∧ l.drop g.r.at_ = rest
theorem stand_step {l x rest : List UInt8} {k : Nat} (hk : k ≤ l.length) (h : l.drop k = x ++ rest) : k + x.length ≤ l.length ∧ l.drop (k + x.length) = rest := by
  have hl := congrArg List.length h
  rw [List.length_drop, List.length_append] at hl
  refine ⟨by omega, ?_⟩
  rw [← List.drop_drop, h]
  simp
theorem dec_stand {l rest : List UInt8} {k n : Nat} (hn : n < 18446744073709551616) (h : l.drop k = enc n ++ rest) : decF 0 0 (l.drop k) = some (n, (enc n).length) := by
  rw [h, dec_enc n 0 0 rest (by omega) (by simpa using hn) (by omega)]
  simp
theorem stand_num {l rest : List UInt8} {g : Gs} {n : Nat} (hn : n < 18446744073709551616) (h : Stand l g (enc n ++ rest)) : ∃ g', gNum l g = (n, g') ∧ Stand l g' rest := by
  obtain ⟨⟨k, bad⟩, bey⟩ := g
  obtain ⟨h1, h2, h3, h4⟩ := h
  simp only at h1 h2 h3 h4
  subst h1 h2
  obtain ⟨s1, s2⟩ := stand_step h3 h4
  refine ⟨⟨⟨k + (enc n).length, false⟩, false⟩, ?_, rfl, rfl, s1, s2⟩
  unfold gNum rsNum
  simp only [dec_stand hn h4]
  rfl
theorem stand_up {l rest : List UInt8} {g : Gs} {n m : Nat} (hm : n ≤ m) (hn : n < 18446744073709551616) (h : Stand l g (enc n ++ rest)) : ∃ g', gUp l m g = (n, g') ∧ Stand l g' rest := by
  obtain ⟨g', e, hs⟩ := stand_num hn h
  refine ⟨g', ?_, hs⟩
  unfold gNum at e
  simp only [Prod.mk.injEq] at e
  unfold gUp
  rw [e.1, if_neg (by omega), e.2]
theorem stand_text {l rest : List UInt8} {g : Gs} {s : ByteArray} (hs : s.size ≤ 300) (h : Stand l g (encT s ++ rest)) : ∃ g', gText l g = (s.data.toList, g') ∧ Stand l g' rest := by
  obtain ⟨⟨k, bad⟩, bey⟩ := g
  obtain ⟨h1, h2, h3, h4⟩ := h
  simp only at h1 h2 h3 h4
  subst h1 h2
  unfold encT at h4
  rw [List.append_assoc] at h4
  obtain ⟨s1, s2⟩ := stand_step h3 h4
  obtain ⟨t1, t2⟩ := stand_step s1 s2
  have hl : s.data.toList.length = s.size := by simp
  rw [hl] at t1 t2
  refine ⟨⟨⟨k + (enc s.size).length + s.size, false⟩, false⟩, ?_, rfl, rfl, t1, t2⟩
  unfold gText rsText
  simp only [dec_stand (show s.size < 18446744073709551616 by omega) h4]
  rw [if_neg (by decide), if_neg (by omega), s2, ← hl]
  simp
theorem stand_bks {l rest : List UInt8} : ∀ (bs : List Nat) (g : Gs) (acc : List Nat), (∀ n ∈ bs, n < 18446744073709551616) → Stand l g (bksL bs ++ rest) → ∃ g', gBks l bs.length g acc = (acc ++ bs, g') ∧ Stand l g' rest
  | [], g, acc, _, h => ⟨g, by simp [gBks], by simpa [bksL] using h⟩
  | n :: bs, g, acc, hn, h => by
    have h' : Stand l g (enc n ++ (bksL bs ++ rest)) := by simpa [bksL] using h
    obtain ⟨g1, e1, s1⟩ := stand_num (hn n (by simp)) h'
    obtain ⟨g2, e2, s2⟩ := stand_bks bs g1 (acc ++ [n]) (fun m hm => hn m (by simp [hm])) s1
    refine ⟨g2, ?_, s2⟩
    rw [List.length_cons, gBks, e1]
    simp only
    rw [e2]
    simp
theorem overN_lt (b : Bool) : overN b ≤ 1 := by cases b <;> simp [overN]
theorem overN_eq (b : Bool) : (overN b == 1) = b := by cases b <;> rfl
theorem stand_row {l rest : List UInt8} {g : Gs} {r : Rw} (hr : InR r) (h : Stand l g (rowL r ++ rest)) : ∃ g', gRow l g = (r, g') ∧ Stand l g' rest := by
  unfold rowL rowHead at h
  simp only [List.append_assoc] at h
  obtain ⟨ga, ea, h⟩ := stand_text hr.key h
  obtain ⟨gb, eb, h⟩ := stand_up (m := 3) (by have := hr.kind0; have := hr.kind1; omega) (by have := hr.kind1; omega) h
  obtain ⟨gc, ec, h⟩ := stand_num hr.fit.many h
  obtain ⟨gd, ed, h⟩ := stand_num (fold_lt hr.fit.sum0 hr.fit.sum1) h
  obtain ⟨ge, ee, h⟩ := stand_num (fold_lt hr.fit.least0 hr.fit.least1) h
  obtain ⟨gf, ef, h⟩ := stand_num (fold_lt hr.fit.most0 hr.fit.most1) h
  obtain ⟨go, eo, h⟩ := stand_up (m := 1) (overN_lt _) (by have := overN_lt r.over; omega) h
  obtain ⟨gm, em, h⟩ := stand_up (m := 65) hr.len (by have := hr.len; omega) h
  obtain ⟨gt, et, h⟩ := stand_bks r.bks gm [] hr.fit.bks h
  refine ⟨gt, ?_, h⟩
  unfold gRow gHead
  simp only [ea, eb, ec, ed, ee, ef, eo, em, et]
  obtain ⟨k, kd, mn, sm, ls, ms, ov, bk⟩ := r
  have h0 := hr.kind0
  simp only at h0 ⊢
  rw [overN_eq, unfold_fold, unfold_fold, unfold_fold, Int.toNat_of_nonneg h0]
  simp
theorem stand_rows {l rest : List UInt8} : ∀ (rs : List Rw) (g : Gs) (acc : List Rw), (∀ r ∈ rs, InR r) → Stand l g (rowsL rs ++ rest) → ∃ g', gRows l rs.length g acc = (acc ++ rs, g') ∧ Stand l g' rest
  | [], g, acc, _, h => ⟨g, by simp [gRows], by simpa [rowsL] using h⟩
  | r :: rs, g, acc, hr, h => by
    have h' : Stand l g (rowL r ++ (rowsL rs ++ rest)) := by simpa [rowsL] using h
    obtain ⟨g1, e1, s1⟩ := stand_row (hr r (by simp)) h'
    obtain ⟨g2, e2, s2⟩ := stand_rows rs g1 (acc ++ [r]) (fun m hm => hr m (by simp [hm])) s1
    refine ⟨g2, ?_, s2⟩
    rw [List.length_cons, gRows, e1]
    simp only
    rw [e2]
    simp
theorem get_put {b : Bt} (hb : InB b) : ∃ g, gBatch (putL b) = (b, g) ∧ g.bey = false ∧ rsEnd (putL b) g.r = none := by
  have h : Stand (putL b) g0 (putL b) := ⟨rfl, rfl, Nat.zero_le _, rfl⟩
  generalize hl : putL b = l at h ⊢
  have h : Stand l g0 (putL b ++ []) := by rw [hl, List.append_nil]; exact h
  unfold putL putHead at h
  simp only [List.append_assoc] at h
  obtain ⟨ga, ea, h⟩ := stand_up (m := 2147483647) (by have := hb.seq0; have := hb.seq1; omega) (by have := hb.seq1; omega) h
  obtain ⟨gb, eb, h⟩ := stand_up (m := 1099511627776) (by have := hb.start0; have := hb.start1; omega) (by have := hb.start1; omega) h
  obtain ⟨gc, ec, h⟩ := stand_up (m := 200) hb.len (by have := hb.len; omega) h
  obtain ⟨gt, et, h⟩ := stand_rows b.rows gc [] hb.rows h
  refine ⟨gt, ?_, h.1, ?_⟩
  · unfold gBatch
    simp only [ea, eb, ec, et]
    obtain ⟨s, t, rs⟩ := b
    have h0 := hb.seq0
    have h1 := hb.start0
    simp only at h0 h1 ⊢
    rw [Int.toNat_of_nonneg h0, Int.toNat_of_nonneg h1]
    simp
  · obtain ⟨_, h2, h3, h4⟩ := h
    unfold rsEnd
    rw [if_pos]
    refine ⟨h2, ?_⟩
    have := List.drop_eq_nil_iff.1 h4
    omega

/-- What is read is what was written. -/
theorem dec_inv : ∀ (s : List UInt8) (i a n k : Nat), decF i a s = some (n, k) → ∃ m, n = a + m * 128 ^ i ∧ k = i + (enc m).length ∧ s = enc m ++ s.drop (k - i) ∧ (0 < i → 0 < m)
  | [], i, a, n, k, h => by rw [dec_nil] at h; cases h
  | c :: s, i, a, n, k, h => by
    rw [dec_cons] at h
    unfold decStep at h
    have hc := UInt8.toNat_lt c
    split at h
    · cases h
    split at h
    · rename_i h2
      split at h
      · cases h
      · rename_i h3
        cases h
        have he : enc c.toNat = [c] := by rw [enc_small h2]; simp
        refine ⟨c.toNat, rfl, by rw [he]; rfl, ?_, fun hi => by omega⟩
        rw [he, show i + 1 - i = 1 by omega]
        simp
    · rename_i h2
      obtain ⟨m, e1, e2, e3, e4⟩ := dec_inv s (i + 1) _ n k h
      have hm := e4 (by omega)
      have hg : 128 ≤ c.toNat - 128 + 128 * m := by omega
      have he : enc (c.toNat - 128 + 128 * m) = c :: enc m := by
        rw [enc_great hg, show (c.toNat - 128 + 128 * m) % 128 + 128 = c.toNat by omega, show (c.toNat - 128 + 128 * m) / 128 = m by omega]
        simp
      refine ⟨c.toNat - 128 + 128 * m, ?_, ?_, ?_, fun _ => by omega⟩
      · rw [e1, Nat.add_mul, pow_split, Nat.add_assoc]
        congr 2
        rw [Nat.mul_comm (128 ^ i) 128, ← Nat.mul_assoc, Nat.mul_comm m 128]
      · rw [he, e2, List.length_cons]; omega
      · rw [he, List.cons_append]
        congr 1
        rw [show k - i = (k - (i + 1)) + 1 by rw [e2]; omega, List.drop_succ_cons]
        exact e3
theorem dec_whole {s : List UInt8} {n k : Nat} (h : decF 0 0 s = some (n, k)) : k = (enc n).length ∧ s = enc n ++ s.drop k := by
  obtain ⟨m, e1, e2, e3, _⟩ := dec_inv s 0 0 n k h
  have : n = m := by simpa using e1
  subst this
  exact ⟨by omega, by simpa using e3⟩
theorem fold_unfold (n : Nat) : foldN (unfoldN n) = n := by
  unfold foldN unfoldN
  by_cases h : n % 2 = 1
  · rw [if_pos h, if_pos (by omega)]; omega
  · rw [if_neg h, if_neg (by omega)]; omega
theorem unfold_bounds {n : Nat} (h : n < 18446744073709551616) : -9223372036854775808 ≤ unfoldN n ∧ unfoldN n ≤ 9223372036854775807 := by
  unfold unfoldN
  split <;> omega

/-- Nothing is amiss. -/
def Clean (l : List UInt8) (g : Gs) : Prop := g.bey = false ∧ g.r.bad = false ∧ g.r.at_ ≤ l.length
theorem back_num {l : List UInt8} {g : Gs} (hat : g.r.at_ ≤ l.length) (h : (gNum l g).2.r.bad = false) :
    g.r.bad = false ∧ (gNum l g).2.r.at_ ≤ l.length ∧ l.drop g.r.at_ = enc (gNum l g).1 ++ l.drop (gNum l g).2.r.at_ := by
  obtain ⟨⟨k, bad⟩, bey⟩ := g
  have hle := (rsNum_le (l := l) (r := ⟨k, bad⟩) hat).1
  unfold gNum at h ⊢
  simp only at h hat ⊢
  refine ⟨?_, hle, ?_⟩
  · cases bad with
    | false => rfl
    | true => unfold rsNum at h; exact h
  · cases bad with
    | true => unfold rsNum at h; cases h
    | false =>
      unfold rsNum at h ⊢
      simp only at h ⊢
      cases hd : decF 0 0 (l.drop k) with
      | none => rw [hd] at h; cases h
      | some p =>
        obtain ⟨n, j⟩ := p
        obtain ⟨e1, e2⟩ := dec_whole hd
        simp only [Bool.false_eq_true, if_false]
        rw [← List.drop_drop]
        exact e2
theorem gUp_or (l : List UInt8) (m : Nat) (g : Gs) : (gUp l m g).2.bey = false → g.bey = false ∧ gUp l m g = gNum l g ∧ (gNum l g).1 ≤ m := by
  unfold gUp gNum
  split
  · intro h; cases h
  · intro h
    exact ⟨h, rfl, by simp only; omega⟩
theorem gUp_at (l : List UInt8) (m : Nat) (g : Gs) : (gUp l m g).2.r = (gNum l g).2.r := by
  unfold gUp gNum
  split <;> rfl
theorem gUp_le (l : List UInt8) (m : Nat) (g : Gs) : (gUp l m g).1 ≤ m := by
  unfold gUp
  split
  · simp
  · simp only; omega
theorem num_at {l : List UInt8} {g : Gs} (h : g.r.at_ ≤ l.length) : (gNum l g).2.r.at_ ≤ l.length := (rsNum_le (l := l) (r := g.r) h).1
theorem num_lt {l : List UInt8} {g : Gs} (h : g.r.at_ ≤ l.length) : (gNum l g).1 < 18446744073709551616 := (rsNum_le (l := l) (r := g.r) h).2
theorem up_at {l : List UInt8} {m : Nat} {g : Gs} (h : g.r.at_ ≤ l.length) : (gUp l m g).2.r.at_ ≤ l.length := by rw [gUp_at]; exact num_at h
theorem text_at {l : List UInt8} {g : Gs} (h : g.r.at_ ≤ l.length) : (gText l g).2.r.at_ ≤ l.length := rsText_le (l := l) (r := g.r) h
theorem back_up {l : List UInt8} {m : Nat} {g : Gs} (hat : g.r.at_ ≤ l.length) (h : Clean l (gUp l m g).2) :
    Clean l g ∧ l.drop g.r.at_ = enc (gUp l m g).1 ++ l.drop (gUp l m g).2.r.at_ := by
  obtain ⟨h1, h2, h3⟩ := h
  obtain ⟨k1, k2, k3⟩ := gUp_or l m g h1
  rw [k2] at h2 ⊢
  obtain ⟨j1, j2, j3⟩ := back_num hat h2
  exact ⟨⟨k1, j1, hat⟩, j3⟩
theorem back_n {l : List UInt8} {g : Gs} (hat : g.r.at_ ≤ l.length) (h : Clean l (gNum l g).2) :
    Clean l g ∧ l.drop g.r.at_ = enc (gNum l g).1 ++ l.drop (gNum l g).2.r.at_ := by
  obtain ⟨h1, h2, h3⟩ := h
  obtain ⟨j1, j2, j3⟩ := back_num hat h2
  exact ⟨⟨h1, j1, hat⟩, j3⟩
theorem back_text {l : List UInt8} {g : Gs} (hat : g.r.at_ ≤ l.length) (h : Clean l (gText l g).2) :
    Clean l g ∧ l.drop g.r.at_ = encT ⟨(gText l g).1.toArray⟩ ++ l.drop (gText l g).2.r.at_ ∧ (gText l g).1.length ≤ 300 := by
  obtain ⟨⟨k, bad⟩, bey⟩ := g
  obtain ⟨h1, h2, h3⟩ := h
  unfold gText at h1 h2 h3 ⊢
  simp only at h1 h2 h3 hat ⊢
  cases bad with
  | true => unfold rsText at h2; cases h2
  | false =>
    refine ⟨⟨h1, rfl, hat⟩, ?_⟩
    unfold rsText at h2 ⊢
    simp only at h2 ⊢
    cases hd : decF 0 0 (l.drop k) with
    | none => rw [hd] at h2; cases h2
    | some p =>
      obtain ⟨n, j⟩ := p
      rw [hd] at h2
      simp only [Bool.false_eq_true, if_false] at h2 ⊢
      split at h2
      · cases h2
      · rename_i hc
        rw [if_neg hc]
        obtain ⟨e1, e2⟩ := dec_whole hd
        obtain ⟨_, _, b3, _⟩ := dec_bound _ 0 0 _ _ (by omega) hd
        rw [List.length_drop] at b3
        have hlen : ((l.drop (k + j)).take n).length = n := by rw [List.length_take, List.length_drop]; omega
        refine ⟨?_, by simp only; omega⟩
        unfold encT
        have hsz : (⟨((l.drop (k + j)).take n).toArray⟩ : ByteArray).size = n := by
          show ((l.drop (k + j)).take n).toArray.size = n
          simp only [List.size_toArray]; exact hlen
        simp only
        rw [hsz, List.append_assoc, ← List.drop_drop (i := n) (j := k + j), List.take_append_drop, ← List.drop_drop]
        exact e2
theorem bks_at {l : List UInt8} : ∀ (k : Nat) (g : Gs) (acc : List Nat), g.r.at_ ≤ l.length → (gBks l k g acc).2.r.at_ ≤ l.length
  | 0, g, acc, h => h
  | k + 1, g, acc, h => bks_at k _ _ (num_at h)
theorem back_bks {l : List UInt8} : ∀ (k : Nat) (g : Gs) (acc : List Nat), g.r.at_ ≤ l.length → Clean l (gBks l k g acc).2 →
    Clean l g ∧ ∃ bs, (gBks l k g acc).1 = acc ++ bs ∧ bs.length = k ∧ l.drop g.r.at_ = bksL bs ++ l.drop (gBks l k g acc).2.r.at_
  | 0, g, acc, hat, h => ⟨h, [], by simp [gBks], rfl, by simp [gBks, bksL]⟩
  | k + 1, g, acc, hat, h => by
    rw [gBks] at h ⊢
    obtain ⟨c1, bs, e1, e2, e3⟩ := back_bks k _ _ (num_at hat) h
    obtain ⟨c0, d0⟩ := back_n hat c1
    refine ⟨c0, (gNum l g).1 :: bs, by rw [e1]; simp, by simp [e2], ?_⟩
    rw [d0, e3]
    simp [bksL]
theorem bks_lt {l : List UInt8} : ∀ (k : Nat) (g : Gs) (acc : List Nat), g.r.at_ ≤ l.length → (∀ n ∈ acc, n < 18446744073709551616) → ∀ n ∈ (gBks l k g acc).1, n < 18446744073709551616
  | 0, g, acc, _, h => h
  | k + 1, g, acc, hat, h => bks_lt k _ _ (num_at hat) (fun n hn => by
      rcases List.mem_append.1 hn with hn | hn
      · exact h n hn
      · obtain rfl : n = (gNum l g).1 := by simpa using hn
        exact num_lt hat)
theorem bks_len {l : List UInt8} : ∀ (k : Nat) (g : Gs) (acc : List Nat), (gBks l k g acc).1.length = acc.length + k
  | 0, g, acc => rfl
  | k + 1, g, acc => by rw [gBks, bks_len k]; simp; omega
theorem overN_back {n : Nat} (h : n ≤ 1) : overN (n == 1) = n := by
  rcases Nat.lt_or_ge n 1 with h1 | h1
  · obtain rfl : n = 0 := by omega
    rfl
  · obtain rfl : n = 1 := by omega
    rfl
theorem head_at {l : List UInt8} {g : Gs} (h : g.r.at_ ≤ l.length) : (gHead l g).2.r.at_ ≤ l.length := by
  unfold gHead
  exact up_at (num_at (num_at (num_at (num_at (up_at (text_at h))))))
theorem row_at {l : List UInt8} {g : Gs} (h : g.r.at_ ≤ l.length) : (gRow l g).2.r.at_ ≤ l.length := by
  unfold gRow
  exact bks_at _ _ _ (up_at (head_at h))
theorem row_fit {l : List UInt8} {g : Gs} (h : g.r.at_ ≤ l.length) : FitR (gRow l g).1 := by
  have ha := text_at h
  have hb := up_at (m := 3) ha
  have hc := num_at hb
  have hd := num_at hc
  have he := num_at hd
  have hf := num_at he
  have hh := head_at h
  have u1 := unfold_bounds (num_lt hc)
  have u2 := unfold_bounds (num_lt hd)
  have u3 := unfold_bounds (num_lt he)
  exact ⟨num_lt hb, u1.1, u1.2, u2.1, u2.2, u3.1, u3.2, bks_lt _ _ _ (up_at hh) (fun n hn => by simp at hn)⟩
theorem back_row {l : List UInt8} {g : Gs} (hat : g.r.at_ ≤ l.length) (h : Clean l (gRow l g).2) :
    Clean l g ∧ l.drop g.r.at_ = rowL (gRow l g).1 ++ l.drop (gRow l g).2.r.at_ := by
  have ha := text_at hat
  have hb := up_at (m := 3) ha
  have hc := num_at hb
  have hd := num_at hc
  have he := num_at hd
  have hf := num_at he
  have hh := head_at hat
  unfold gRow at h ⊢
  simp only at h ⊢
  obtain ⟨cm, bs, et, el, dt⟩ := back_bks _ _ _ (up_at hh) h
  obtain ⟨ch, dm⟩ := back_up hh cm
  rw [List.nil_append] at et
  unfold gHead at ch dm et dt el ⊢
  simp only at ch dm et dt el ⊢
  have lo := gUp_le l 1 (gNum l (gNum l (gNum l (gNum l (gUp l 3 (gText l g).2).2).2).2).2).2
  obtain ⟨cf, do_⟩ := back_up hf ch
  obtain ⟨ce, df⟩ := back_n he cf
  obtain ⟨cd, de⟩ := back_n hd ce
  obtain ⟨cc, dd⟩ := back_n hc cd
  obtain ⟨cb, dc⟩ := back_n hb cc
  obtain ⟨ca, db⟩ := back_up ha cb
  obtain ⟨c0, da, _⟩ := back_text hat ca
  refine ⟨c0, ?_⟩
  unfold rowL rowHead
  simp only
  rw [et, da, db, dc, dd, de, df, do_, dm, dt, fold_unfold, fold_unfold, fold_unfold, overN_back lo, el]
  simp only [List.append_assoc, Int.toNat_natCast]
theorem rows_at {l : List UInt8} : ∀ (k : Nat) (g : Gs) (acc : List Rw), g.r.at_ ≤ l.length → (gRows l k g acc).2.r.at_ ≤ l.length
  | 0, g, acc, h => h
  | k + 1, g, acc, h => rows_at k _ _ (row_at h)
theorem rows_fit {l : List UInt8} : ∀ (k : Nat) (g : Gs) (acc : List Rw), g.r.at_ ≤ l.length → (∀ r ∈ acc, FitR r) → ∀ r ∈ (gRows l k g acc).1, FitR r
  | 0, g, acc, _, h => h
  | k + 1, g, acc, hat, h => rows_fit k _ _ (row_at hat) (fun r hr => by
      rcases List.mem_append.1 hr with hr | hr
      · exact h r hr
      · obtain rfl : r = (gRow l g).1 := by simpa using hr
        exact row_fit hat)
theorem rows_len {l : List UInt8} : ∀ (k : Nat) (g : Gs) (acc : List Rw), (gRows l k g acc).1.length = acc.length + k
  | 0, g, acc => rfl
  | k + 1, g, acc => by rw [gRows, rows_len k]; simp; omega
theorem back_rows {l : List UInt8} : ∀ (k : Nat) (g : Gs) (acc : List Rw), g.r.at_ ≤ l.length → Clean l (gRows l k g acc).2 →
    Clean l g ∧ ∃ rs, (gRows l k g acc).1 = acc ++ rs ∧ rs.length = k ∧ l.drop g.r.at_ = rowsL rs ++ l.drop (gRows l k g acc).2.r.at_
  | 0, g, acc, hat, h => ⟨h, [], by simp [gRows], rfl, by simp [gRows, rowsL]⟩
  | k + 1, g, acc, hat, h => by
    rw [gRows] at h ⊢
    obtain ⟨c1, rs, e1, e2, e3⟩ := back_rows k _ _ (row_at hat) h
    obtain ⟨c0, d0⟩ := back_row hat c1
    refine ⟨c0, (gRow l g).1 :: rs, by rw [e1]; simp, by simp [e2], ?_⟩
    rw [d0, e3]
    simp [rowsL]
theorem batch_at (l : List UInt8) : (gBatch l).2.r.at_ ≤ l.length := by
  unfold gBatch
  exact rows_at _ _ _ (up_at (up_at (up_at (Nat.zero_le _))))
theorem batch_fit (l : List UInt8) : (∀ r ∈ (gBatch l).1.rows, FitR r) ∧ 0 ≤ (gBatch l).1.seq ∧ (gBatch l).1.seq ≤ 2147483647 ∧ 0 ≤ (gBatch l).1.start ∧ (gBatch l).1.start ≤ 1099511627776 ∧ (gBatch l).1.rows.length ≤ 200 := by
  unfold gBatch
  simp only
  have h1 := gUp_le l 2147483647 g0
  have h2 := gUp_le l 1099511627776 (gUp l 2147483647 g0).2
  have h3 := gUp_le l 200 (gUp l 1099511627776 (gUp l 2147483647 g0).2).2
  refine ⟨rows_fit _ _ _ (up_at (up_at (up_at (Nat.zero_le _)))) (fun r hr => by simp at hr), by omega, by omega, by omega, by omega, ?_⟩
  rw [rows_len]
  simp
  exact h3
theorem rsEnd_none {l : List UInt8} {r : Rs} (h : rsEnd l r = none) : r.bad = false ∧ r.at_ = l.length := by
  unfold rsEnd at h
  split at h
  · assumption
  · cases h
theorem put_get {l : List UInt8} (h1 : (gBatch l).2.bey = false) (h2 : rsEnd l (gBatch l).2.r = none) : putL (gBatch l).1 = l := by
  obtain ⟨e1, e2⟩ := rsEnd_none h2
  have hc : Clean l (gBatch l).2 := ⟨h1, e1, batch_at l⟩
  unfold gBatch at hc e2 ⊢
  simp only at hc e2 ⊢
  have ha := up_at (l := l) (m := 2147483647) (g := g0) (Nat.zero_le _)
  have hb := up_at (m := 1099511627776) ha
  have hcc := up_at (m := 200) hb
  obtain ⟨cc, rs, er, el, dr⟩ := back_rows _ _ _ hcc hc
  obtain ⟨cb, dc⟩ := back_up hb cc
  obtain ⟨ca, db⟩ := back_up ha cb
  obtain ⟨c0, da⟩ := back_up (Nat.zero_le _) ca
  rw [e2] at dr
  rw [List.nil_append] at er
  unfold putL putHead
  simp only
  rw [er, el]
  rw [List.drop_length, List.append_nil] at dr
  rw [dr] at dc
  rw [dc] at db
  rw [db] at da
  simp only [Int.toNat_natCast, List.append_assoc]
  exact da.symm
end Go.Proofs.YtedhciolnekpaaaGreatDoor
namespace Go.Proofs.YtedhciolnekpaaaGreatDoor
open Go.ChangeShapes Go.WideShapes Go.ChangeAt Go.RowKit

theorem own : ownKnob Tryz.prog.godebug = none := by kernel_rfl
theorem laidOut : laidOutB Tryz.prog = true := by kernel_rfl

/-- What a law's call must come to: true, and all that was there is as it was. -/
def Holds (W : World) (e : Ending) (W' : World) : Prop := e = .returned (.bool true) ∧ Below W.heap.size W W'

section
variable {H : Type} {enc : TypeId × Value → H} {P : Program}

theorem trodAll_stays (hl : laidOutB P = true) {W W' : World} (hb : Below W.heap.size W W') {sp : Nat → Bool} :
    ∀ {ts : List TypeId} {vs : List Value} {ds : List (DataW H)} {ps : List MemPlace},
      ts.all (fun t => P.readableRec t && decide (t < P.types.size)) = true →
      DataW.TrodAll enc P W 0 (fun _ => true) true ts vs ds ps → (∀ p ∈ ps, p.block < W.heap.size) → (∀ p ∈ ps, sp p.block = true) →
      DataW.TrodAll enc P W' 0 sp true ts vs ds ps
  | [], _, _, _, _, h, _, _ => by
    obtain ⟨rfl, rfl, rfl⟩ := trodAll_nil h
    exact rfl
  | t :: ts, _, _, _, ht, h, hlt, hs => by
    obtain ⟨v, vs, d, ds, p, q, rfl, rfl, rfl, h1, h2⟩ := trodAll_cons h
    simp only [List.all_cons, Bool.and_eq_true, decide_eq_true_eq] at ht
    refine ⟨p, q, ?_, trodAll_stays hl hb ht.2 h2 (fun x hx => hlt x (by simp [hx])) (fun x hx => hs x (by simp [hx])), rfl⟩
    exact WideElems.Trod_stays hl ht.1.1 ht.1.2 h1 (fun x hx => hb.same (hlt x (by simp [hx]))) (fun x hx => hs x (by simp [hx]))

theorem trodAll_length {w : World} {base : Nat} {sp : Nat → Bool} {held : Bool} :
    ∀ {ts : List TypeId} {vs : List Value} {ds : List (DataW H)} {ps : List MemPlace},
      DataW.TrodAll enc P w base sp held ts vs ds ps → ds.length = ts.length
  | [], _, _, _, h => by obtain ⟨rfl, rfl, rfl⟩ := trodAll_nil h; rfl
  | _ :: _, _, _, _, h => by
    obtain ⟨v, vs, d, ds, p, q, rfl, rfl, rfl, h1, h2⟩ := trodAll_cons h
    simp [trodAll_length h2]

theorem law_post {f : Func} {s : ChangeSpec} {tb : TypeId} (hl : laidOutB P = true)
    (hp : f.params.toList.all (fun t => P.readableRec t && decide (t < P.types.size)) = true) (hv : s.vars = [])
    (hs : ∀ ds : List (DataW H), ds.length = f.params.size → s.fn H ds = { results := [.lit (.bool true)], args := ds })
    (hr : f.resultTypes = #[tb]) (htb : P.underlying tb = some .bool)
    {W W' : World} {args : Array Value} {ds gs : List (DataW H)} {before : List MemPlace}
    (hW : DataW.Whole enc P f.params.toList s.vars false W args.toList ds gs before) (hb : Below W.heap.size W W') :
    s.post enc P f false true false false W args (.bool true) W' := by
  have hW' := hW
  have hlt := hW.lt
  obtain ⟨p, q, hA, hV, rfl, _, _⟩ := hW
  rw [hv] at hV
  obtain ⟨rfl, rfl⟩ := trodVars_none hV
  have hf := hs ds (by rw [trodAll_length hA]; simp)
  refine ⟨ds, [], _, [], p, [], hW', ?_, ?_, ?_, hb.frame _, fun h => by cases h⟩
  · rw [List.append_nil, hf, hr]
    exact trodAll_cons_mk (shut_bool htb _) trodAll_mk0
  · rw [List.append_nil, hf]
    exact trodAll_stays hl hb hp hA (fun x hx => hlt x (by simp [hx])) (fun x hx => by simpa using hlt x (by simp [hx]))
  · rw [List.append_nil, hf, hv]
    exact rfl
end

theorem law_contract {H : Type} {enc : TypeId × Value → H} {K : FuncId} {fn : Func} {s : ChangeSpec} {tb : TypeId}
    (hp : fn.params.toList.all (fun t => Tryz.prog.readableRec t && decide (t < Tryz.prog.types.size)) = true) (hv : s.vars = [])
    (hs : ∀ ds : List (DataW H), ds.length = fn.params.size → s.fn H ds = { results := [.lit (.bool true)], args := ds })
    (hr : fn.resultTypes = #[tb]) (htb : Tryz.prog.underlying tb = some .bool)
    {W : World} {args : Array Value} {ds gs : List (DataW H)} {before : List MemPlace}
    (hW : DataW.Whole enc Tryz.prog fn.params.toList s.vars false W args.toList ds gs before)
    (walk : Calls Tryz.prog K args W (Holds W)) :
    Calls Tryz.prog K args W fun e W' => ∃ v, e = .returned v ∧ s.post enc Tryz.prog fn false true false false W args v W' :=
  walk.mono fun _ _ ⟨he, hb⟩ => ⟨_, he, law_post laidOut hp hv hs hr htb hW hb⟩

theorem ret_bool {a b : Bool} (h : a = b) : Ending.returned (.bool a) = .returned (.bool b) := by rw [h]
theorem grown_below {W w' : World} (h : W = w') : Below W.heap.size W w' := by subst h; exact Below.refl _ _
end Go.Proofs.YtedhciolnekpaaaGreatDoor
namespace Go.Proofs.YtedhciolnekpaaaGreatDoor
open Go.ChangeShapes Go.WideShapes Go.ChangeAt Go.RowKit

/-- The sum of two, or the nearer end. -/
def addS (a b : Int) : Int :=
  if 0 < b ∧ 9223372036854775807 - b < a then 9223372036854775807
  else if b < 0 ∧ a < -9223372036854775808 - b then -9223372036854775808 else a + b
/-- Whether that sum lies beyond. -/
def addO (a b : Int) : Bool :=
  if 0 < b ∧ 9223372036854775807 - b < a then true
  else if b < 0 ∧ a < -9223372036854775808 - b then true else false

theorem add_up {a b : Int} (h0 : 0 < b) (h : 9223372036854775807 - b < a) :
    addS a b = 9223372036854775807 ∧ addO a b = true := by
  unfold addS addO; rw [if_pos ⟨h0, h⟩, if_pos ⟨h0, h⟩]; exact ⟨rfl, rfl⟩
theorem add_down {a b : Int} (h0 : b < 0) (h : a < -9223372036854775808 - b) :
    addS a b = -9223372036854775808 ∧ addO a b = true := by
  have h1 : ¬ (0 < b ∧ 9223372036854775807 - b < a) := by omega
  unfold addS addO
  rw [if_neg h1, if_neg h1, if_pos ⟨h0, h⟩, if_pos ⟨h0, h⟩]; exact ⟨rfl, rfl⟩
theorem add_in {a b : Int} (h0 : ¬ (0 < b ∧ 9223372036854775807 - b < a))
    (h1 : ¬ (b < 0 ∧ a < -9223372036854775808 - b)) : addS a b = a + b ∧ addO a b = false := by
  unfold addS addO
  rw [if_neg h0, if_neg h0, if_neg h1, if_neg h1]; exact ⟨rfl, rfl⟩

theorem ret_pair {k : IntKind} {a b : Int} {x y : Bool} (h : a = b) (g : x = y) :
    Ending.returned (.tuple #[.int k a, .bool x]) = .returned (.tuple #[.int k b, .bool y]) := by rw [h, g]

def Adds (a b : Int) (w : World) (e : Ending) (w' : World) : Prop :=
  e = .returned (.tuple #[.int .i64 (addS a b), .bool (addO a b)]) ∧ w = w'

theorem satAdd (a b : Int) (w : World) (a0 : -9223372036854775808 ≤ a) (a1 : a ≤ 9223372036854775807)
    (b0 : -9223372036854775808 ≤ b) (b1 : b ≤ 9223372036854775807) :
    Calls Tryz.prog 56 #[.int .i64 a, .int .i64 b] w (Adds a b w) := by
  by_cases p : 0 < b
  · by_cases q : 9223372036854775807 - b < a
    · go_enter Tryz.func56, Tryz.ntmps56
      go_wp2
      go_ret2
      exact ⟨ret_pair (add_up p q).1.symm (add_up p q).2.symm, rfl⟩
    · have h := add_in (a := a) (b := b) (by omega) (by omega)
      have H := Lib.hid h; clear h
      go_enter Tryz.func56, Tryz.ntmps56
      go_wp2
      go_ret2
      exact ⟨ret_pair H.out.1.symm H.out.2.symm, rfl⟩
  · by_cases p' : b < 0
    · by_cases q : a < -9223372036854775808 - b
      · go_enter Tryz.func56, Tryz.ntmps56
        go_wp2
        go_ret2
        exact ⟨ret_pair (add_down p' q).1.symm (add_down p' q).2.symm, rfl⟩
      · have h := add_in (a := a) (b := b) (by omega) (by omega)
        have H := Lib.hid h; clear h
        go_enter Tryz.func56, Tryz.ntmps56
        go_wp2
        go_ret2
        exact ⟨ret_pair H.out.1.symm H.out.2.symm, rfl⟩
    · have h := add_in (a := a) (b := b) (by omega) (by omega)
      have H := Lib.hid h; clear h
      go_enter Tryz.func56, Tryz.ntmps56
      go_wp2
      go_ret2
      exact ⟨ret_pair H.out.1.symm H.out.2.symm, rfl⟩
theorem refAdd (a b : Int) (w : World) (a0 : -9223372036854775808 ≤ a) (a1 : a ≤ 9223372036854775807)
    (b0 : -9223372036854775808 ≤ b) (b1 : b ≤ 9223372036854775807) :
    Calls Tryz.prog 50 #[.int .i64 a, .int .i64 b] w (Adds a b w) := by
  by_cases p : 0 < b
  · by_cases q : 9223372036854775807 - b < a
    · go_enter Tryz.func50, Tryz.ntmps50
      go_wp2
      go_ret2
      exact ⟨ret_pair (add_up p q).1.symm (add_up p q).2.symm, rfl⟩
    · have h := add_in (a := a) (b := b) (by omega) (by omega)
      have H := Lib.hid h; clear h
      go_enter Tryz.func50, Tryz.ntmps50
      go_wp2
      go_ret2
      exact ⟨ret_pair H.out.1.symm H.out.2.symm, rfl⟩
  · by_cases p' : b < 0
    · by_cases q : a < -9223372036854775808 - b
      · go_enter Tryz.func50, Tryz.ntmps50
        go_wp2
        go_ret2
        exact ⟨ret_pair (add_down p' q).1.symm (add_down p' q).2.symm, rfl⟩
      · have h := add_in (a := a) (b := b) (by omega) (by omega)
        have H := Lib.hid h; clear h
        go_enter Tryz.func50, Tryz.ntmps50
        go_wp2
        go_ret2
        exact ⟨ret_pair H.out.1.symm H.out.2.symm, rfl⟩
    · have h := add_in (a := a) (b := b) (by omega) (by omega)
      have H := Lib.hid h; clear h
      go_enter Tryz.func50, Tryz.ntmps50
      go_wp2
      go_ret2
      exact ⟨ret_pair H.out.1.symm H.out.2.symm, rfl⟩

theorem addS_bd (a b : Int) (a0 : -9223372036854775808 ≤ a) (a1 : a ≤ 9223372036854775807)
    (b0 : -9223372036854775808 ≤ b) (b1 : b ≤ 9223372036854775807) :
    -9223372036854775808 ≤ addS a b ∧ addS a b ≤ 9223372036854775807 := by
  unfold addS
  split
  · omega
  · split <;> omega

/-- The sum of two counts, or the top. -/
def cntS (a b : Int) : Int := if 18446744073709551615 - b < a then 18446744073709551615 else a + b
def cntO (a b : Int) : Bool := decide (18446744073709551615 - b < a)
def Cnts (a b : Int) (w : World) (e : Ending) (w' : World) : Prop :=
  e = .returned (.tuple #[.int .u64 (cntS a b), .bool (cntO a b)]) ∧ w = w'

theorem cnt_up {a b : Int} (h : 18446744073709551615 - b < a) : cntS a b = 18446744073709551615 ∧ cntO a b = true := by
  unfold cntS cntO; rw [if_pos h]; exact ⟨rfl, by simpa using h⟩
theorem cnt_in {a b : Int} (h : ¬ 18446744073709551615 - b < a) : cntS a b = a + b ∧ cntO a b = false := by
  unfold cntS cntO; rw [if_neg h]; exact ⟨rfl, by simpa using h⟩

theorem satCount (a b : Int) (w : World) (a0 : 0 ≤ a) (a1 : a ≤ 18446744073709551615)
    (b0 : 0 ≤ b) (b1 : b ≤ 18446744073709551615) :
    Calls Tryz.prog 75 #[.int .u64 a, .int .u64 b] w (Cnts a b w) := by
  by_cases p : 18446744073709551615 - b < a
  · have h := Lib.hid (cnt_up p)
    go_enter Tryz.func75, Tryz.ntmps75
    go_wp2
    go_ret2
    exact ⟨ret_pair h.out.1.symm h.out.2.symm, rfl⟩
  · have h := Lib.hid (cnt_in p)
    go_enter Tryz.func75, Tryz.ntmps75
    go_wp2
    go_ret2
    exact ⟨ret_pair h.out.1.symm h.out.2.symm, rfl⟩

theorem refCount (a b : Int) (w : World) (a0 : 0 ≤ a) (a1 : a ≤ 18446744073709551615)
    (b0 : 0 ≤ b) (b1 : b ≤ 18446744073709551615) :
    Calls Tryz.prog 49 #[.int .u64 a, .int .u64 b] w (Cnts a b w) := by
  by_cases p : 18446744073709551615 - b < a
  · have h := Lib.hid (cnt_up p)
    have p' : 18446744073709551615 - a < b := by omega
    go_enter Tryz.func49, Tryz.ntmps49
    go_wp2
    go_ret2
    exact ⟨ret_pair h.out.1.symm h.out.2.symm, rfl⟩
  · have h := Lib.hid (cnt_in p)
    have p' : ¬ 18446744073709551615 - a < b := by omega
    go_enter Tryz.func49, Tryz.ntmps49
    go_wp2
    go_ret2
    exact ⟨ret_pair h.out.1.symm h.out.2.symm, rfl⟩

def Ups (w : World) (e : Ending) (w' : World) : Prop := e = .returned (.bool true) ∧ w = w'
end Go.Proofs.YtedhciolnekpaaaGreatDoor
namespace Go.Proofs.YtedhciolnekpaaaGreatDoor
set_option linter.unusedVariables false

/-- One more, at most the top. -/
def upN (n : Nat) : Nat := if n < 18446744073709551615 then n + 1 else 18446744073709551615
theorem upN_bd (n : Nat) : upN n ≤ 18446744073709551615 := by unfold upN; split <;> omega
/-- A value's bucket. -/
def bkt (v : Int) : Nat := Lib.bitLen v.toNat
theorem bkt_neg {v : Int} (h : v ≤ 0) : bkt v = 0 := by
  unfold bkt
  rw [Int.toNat_of_nonpos h]
  rfl
theorem bkt_le {v : Int} (h : v ≤ 9223372036854775807) : bkt v ≤ 63 := Lib.bitLen_le _ 63 (by omega) (by omega)
theorem bkt_half {v : Int} (h0 : 0 < v) (h1 : v ≤ 9223372036854775807) : bkt v = 1 + bkt (v / 2) := by
  unfold bkt
  rw [Lib.bitLen_half _ (by omega) (by omega)]
  congr 2
  omega
/-- As many places as are asked for, the new ones 0. -/
def padN (l : List Nat) (n : Nat) : List Nat := l ++ List.replicate (n - l.length) 0
theorem padN_length (l : List Nat) (n : Nat) : (padN l n).length = max l.length n := by
  unfold padN
  rw [List.length_append, List.length_replicate]
  omega
theorem padN_more {l : List Nat} {n : Nat} (h : n ≤ l.length) : padN l n = l := by
  unfold padN
  rw [Nat.sub_eq_zero_of_le h]
  simp
theorem padN_next {l : List Nat} {n k : Nat} (hk : l.length ≤ k) (hn : k < n) : padN l k ++ [0] = padN l (k + 1) := by
  unfold padN
  rw [List.append_assoc, Nat.succ_sub hk, List.replicate_succ']
/-- One more in a place; the places up to it are laid. -/
def incN (l : List Nat) (b : Nat) : List Nat := (padN l (b + 1)).set b (upN ((padN l (b + 1)).getD b 0))
theorem incN_length (l : List Nat) (b : Nat) : (incN l b).length = max l.length (b + 1) := by
  unfold incN
  rw [List.length_set, padN_length]
theorem padN_bd {l : List Nat} {n : Nat} (h : ∀ x ∈ l, x ≤ 18446744073709551615) : ∀ x ∈ padN l n, x ≤ 18446744073709551615 := by
  intro x hx
  unfold padN at hx
  rcases List.mem_append.1 hx with hx | hx
  · exact h x hx
  · have := List.eq_of_mem_replicate hx
    omega
theorem incN_bd {l : List Nat} {b : Nat} (h : ∀ x ∈ l, x ≤ 18446744073709551615) : ∀ x ∈ incN l b, x ≤ 18446744073709551615 := by
  intro x hx
  rcases List.mem_or_eq_of_mem_set hx with hx | rfl
  · exact padN_bd h x hx
  · exact upN_bd _

theorem plus_in {a b : Int} (h : addO a b = false) : addS a b = a + b := by
  unfold addO at h
  unfold addS
  split at h
  · cases h
  · split at h
    · cases h
    · rename_i h1 h2
      rw [if_neg h1, if_neg h2]

/-- What comes of a row's buckets. -/
def fillR (r : Rw) (v : Int) : Rw := { r with bks := if r.kind = 3 then incN r.bks (bkt v) else r.bks }
def beginR (key : ByteArray) (kind : Int) (v : Int) : Rw := fillR ⟨key, kind, 1, v, v, v, false, []⟩ v
/-- A row to which a value came. -/
def comeR (r : Rw) (v : Int) : Rw :=
  fillR ⟨r.key, r.kind, upN r.many, if r.kind = 2 then v else addS r.sum v, if v < r.least then v else r.least, if r.most < v then v else r.most, if r.kind = 2 then r.over else r.over || addO r.sum v, r.bks⟩ v
def zeroR : Rw := ⟨⟨#[]⟩, 0, 0, 0, 0, 0, false, []⟩
/-- The row of values. -/
def foldR (key : ByteArray) (kind : Int) : List Int → Rw
  | [] => zeroR
  | v :: l => l.foldl comeR (beginR key kind v)
def In64 (v : Int) : Prop := -9223372036854775808 ≤ v ∧ v ≤ 9223372036854775807
/-- A row that a machine holds. -/
structure OkR (r : Rw) : Prop where
  many : r.many ≤ 18446744073709551615
  sum : In64 r.sum
  least : In64 r.least
  most : In64 r.most
  bks : ∀ x ∈ r.bks, x ≤ 18446744073709551615
  len : r.bks.length ≤ 100
theorem OkR.fill {r : Rw} {v : Int} (h : OkR r) (hv : In64 v) : OkR (fillR r v) := by
  refine ⟨h.many, h.sum, h.least, h.most, ?_, ?_⟩
  · unfold fillR
    dsimp only
    split
    · exact incN_bd h.bks
    · exact h.bks
  · unfold fillR
    dsimp only
    have := h.len
    have := bkt_le hv.2
    split
    · rw [incN_length]; omega
    · omega
theorem OkR.begin (key : ByteArray) (kind : Int) {v : Int} (hv : In64 v) : OkR (beginR key kind v) :=
  OkR.fill ⟨(by decide : (1 : Nat) ≤ 18446744073709551615), hv, hv, hv, fun x h => by simp at h, by simp⟩ hv
/-- What comes of the other fields. -/
def headR (r : Rw) (v : Int) : Rw := ⟨r.key, r.kind, upN r.many, if r.kind = 2 then v else addS r.sum v, if v < r.least then v else r.least, if r.most < v then v else r.most, if r.kind = 2 then r.over else r.over || addO r.sum v, r.bks⟩
theorem comeR_eq (r : Rw) (v : Int) : comeR r v = fillR (headR r v) v := rfl
theorem OkR.head {r : Rw} {v : Int} (h : OkR r) (hv : In64 v) : OkR (headR r v) := by
  refine ⟨upN_bd _, ?_, ?_, ?_, h.bks, h.len⟩
  · unfold headR
    dsimp only
    split
    · exact hv
    · exact addS_bd _ _ h.sum.1 h.sum.2 hv.1 hv.2
  · unfold headR
    dsimp only
    split
    · exact hv
    · exact h.least
  · unfold headR
    dsimp only
    split
    · exact hv
    · exact h.most
theorem OkR.come {r : Rw} {v : Int} (h : OkR r) (hv : In64 v) : OkR (comeR r v) := (h.head hv).fill hv
theorem foldR_next {key : ByteArray} {kind : Int} {v : Int} {l : List Int} {k : Nat} {x : Int} (hx : l[k]? = some x) :
    foldR key kind (v :: l.take (k + 1)) = comeR (foldR key kind (v :: l.take k)) x := by
  show (l.take (k + 1)).foldl comeR (beginR key kind v) = comeR ((l.take k).foldl comeR (beginR key kind v)) x
  rw [List.take_add_one, hx, List.foldl_append]
  rfl
theorem foldR_ok {key : ByteArray} {kind : Int} {v : Int} {l : List Int} (hv : In64 v) (hl : ∀ x ∈ l, In64 x) : OkR (foldR key kind (v :: l)) := by
  show OkR (l.foldl comeR (beginR key kind v))
  suffices ∀ r, OkR r → OkR (l.foldl comeR r) from this _ (OkR.begin key kind hv)
  induction l with
  | nil => intro r h; exact h
  | cons x l ih => intro r h; exact ih (fun y hy => hl y (by simp [hy])) _ (h.come (hl x (by simp)))
end Go.Proofs.YtedhciolnekpaaaGreatDoor
namespace Go.Proofs.YtedhciolnekpaaaGreatDoor
set_option linter.unusedVariables false

/-- A row's name: its key and its kind; one stands ahead of another. -/
abbrev Nm := ByteArray × Int
def nmR (r : Rw) : Nm := (r.key, r.kind)
def ltW (a b : Nm) : Bool := if a.1 = b.1 then decide (a.2 < b.2) else decide (a.1.data.toList < b.1.data.toList)
theorem key_eq {a b : ByteArray} (h : a.data.toList = b.data.toList) : a = b := by
  obtain ⟨⟨a⟩⟩ := a
  obtain ⟨⟨b⟩⟩ := b
  simpa using h
theorem ltW_iff {a b : Nm} : ltW a b = true ↔ a.1.data.toList < b.1.data.toList ∨ (a.1 = b.1 ∧ a.2 < b.2) := by
  unfold ltW
  by_cases h : a.1 = b.1
  · rw [if_pos h, h]; simp [List.lt_irrefl]
  · rw [if_neg h]; simp [h]
theorem ltW_irrefl (a : Nm) : ltW a a = false := by
  rw [Bool.eq_false_iff]
  intro h
  rcases ltW_iff.1 h with h | ⟨_, h⟩
  · exact List.lt_irrefl _ h
  · omega
theorem ltW_trans {a b c : Nm} (h : ltW a b = true) (k : ltW b c = true) : ltW a c = true := by
  rcases ltW_iff.1 h with h | ⟨h1, h2⟩ <;> rcases ltW_iff.1 k with k | ⟨k1, k2⟩
  · exact ltW_iff.2 (.inl (List.lt_trans h k))
  · exact ltW_iff.2 (.inl (k1 ▸ h))
  · exact ltW_iff.2 (.inl (h1 ▸ k))
  · exact ltW_iff.2 (.inr ⟨h1.trans k1, by omega⟩)
theorem ltW_tri (a b : Nm) : ltW a b = true ∨ a = b ∨ ltW b a = true := by
  by_cases h : a.1 = b.1
  · rcases Int.lt_trichotomy a.2 b.2 with k | k | k
    · exact .inl (ltW_iff.2 (.inr ⟨h, k⟩))
    · exact .inr (.inl (Prod.ext h k))
    · exact .inr (.inr (ltW_iff.2 (.inr ⟨h.symm, k⟩)))
  · by_cases k : a.1.data.toList < b.1.data.toList
    · exact .inl (ltW_iff.2 (.inl k))
    · refine .inr (.inr (ltW_iff.2 (.inl ?_)))
      have k2 := List.not_lt.1 k
      by_cases k3 : b.1.data.toList < a.1.data.toList
      · exact k3
      · exact absurd (key_eq (List.le_antisymm (List.not_lt.1 k3) k2)) h
theorem ltW_ne {a b : Nm} (h : ltW a b = true) : a ≠ b := fun e => by subst e; rw [ltW_irrefl] at h; cases h
theorem ltW_asymm {a b : Nm} (h : ltW a b = true) : ltW b a = false := by
  rw [Bool.eq_false_iff]
  intro k
  have := ltW_trans h k
  rw [ltW_irrefl] at this
  cases this

/-- A value that was added. -/
structure PtW where
  start : Int
  nm : Nm
  val : Int
/-- A value comes to its row among a window's, which begins with it, if there is none. -/
def putW (n : Nm) (v : Int) : List Rw → List Rw
  | [] => [beginR n.1 n.2 v]
  | r :: l => if ltW (nmR r) n = true then r :: putW n v l else if nmR r = n then comeR r v :: l else beginR n.1 n.2 v :: r :: l
/-- A window begins. -/
def insW (s : Int) : List Int → List Int
  | [] => [s]
  | x :: l => if x < s then x :: insW s l else if x = s then x :: l else s :: x :: l
def startsW (l : List PtW) : List Int := l.foldl (fun acc p => insW p.start acc) []
def stepW (s : Int) (rows : List Rw) (p : PtW) : List Rw := if p.start = s then putW p.nm p.val rows else rows
def rowsW (s : Int) (l : List PtW) : List Rw := l.foldl (stepW s) []
def leftW (s : Int) (l : List PtW) : List PtW := l.filter (fun p => decide (p.start ≠ s))

/-! One step. -/
theorem starts_next (l : List PtW) (p : PtW) : startsW (l ++ [p]) = insW p.start (startsW l) := by unfold startsW; rw [List.foldl_append]; rfl
theorem rowsW_next (s : Int) (l : List PtW) (p : PtW) : rowsW s (l ++ [p]) = if p.start = s then putW p.nm p.val (rowsW s l) else rowsW s l := by
  unfold rowsW; rw [List.foldl_append]; rfl
theorem rows_same {s : Int} {l : List PtW} {p : PtW} (h : p.start = s) : rowsW s (l ++ [p]) = putW p.nm p.val (rowsW s l) := by rw [rowsW_next, if_pos h]
theorem rows_other {s : Int} {l : List PtW} {p : PtW} (h : p.start ≠ s) : rowsW s (l ++ [p]) = rowsW s l := by rw [rowsW_next, if_neg h]

/-! When windows begin: rising, each once. -/
def UpW (l : List Int) : Prop := l.Pairwise (· < ·)
theorem insW_mem {s x : Int} : ∀ {l : List Int}, x ∈ insW s l ↔ x = s ∨ x ∈ l
  | [] => by simp [insW]
  | y :: l => by
    unfold insW
    split
    · rw [List.mem_cons, insW_mem (l := l), List.mem_cons]
      constructor
      · rintro (h | h | h)
        · exact .inr (.inl h)
        · exact .inl h
        · exact .inr (.inr h)
      · rintro (h | h | h)
        · exact .inr (.inl h)
        · exact .inl h
        · exact .inr (.inr h)
    · split
      · rename_i h
        subst h
        simp
      · simp
theorem insW_up {s : Int} : ∀ {l : List Int}, UpW l → UpW (insW s l)
  | [], _ => by simp [insW, UpW]
  | y :: l, h => by
    obtain ⟨h1, h2⟩ := List.pairwise_cons.1 h
    unfold insW
    split
    · rename_i c
      refine List.pairwise_cons.2 ⟨fun x hx => ?_, insW_up h2⟩
      rcases insW_mem.1 hx with rfl | hx
      · exact c
      · exact h1 x hx
    · split
      · exact h
      · refine List.pairwise_cons.2 ⟨fun x hx => ?_, h⟩
        rcases List.mem_cons.1 hx with rfl | hx
        · omega
        · have := h1 x hx; omega
theorem starts_up (l : List PtW) : UpW (startsW l) := by
  unfold startsW
  suffices ∀ acc, UpW acc → UpW (l.foldl (fun acc p => insW p.start acc) acc) from this [] List.Pairwise.nil
  induction l with
  | nil => intro acc h; exact h
  | cons p l ih => intro acc h; exact ih _ (insW_up h)
theorem starts_mem {s : Int} (l : List PtW) : s ∈ startsW l ↔ ∃ p ∈ l, p.start = s := by
  unfold startsW
  have : ∀ acc, s ∈ l.foldl (fun acc p => insW p.start acc) acc ↔ (∃ p ∈ l, p.start = s) ∨ s ∈ acc := by
    induction l with
    | nil => intro acc; simp
    | cons p l ih =>
      intro acc
      rw [List.foldl_cons, ih, insW_mem]
      constructor
      · rintro (⟨q, h1, h2⟩ | h | h)
        · exact .inl ⟨q, by simp [h1], h2⟩
        · exact .inl ⟨p, by simp, h.symm⟩
        · exact .inr h
      · rintro (⟨q, h1, h2⟩ | h)
        · rcases List.mem_cons.1 h1 with rfl | h1
          · exact .inr (.inl h2.symm)
          · exact .inl ⟨q, h1, h2⟩
        · exact .inr (.inr h)
  rw [this]; simp
/-- Two that rise and have the same numbers are one. -/
theorem up_ext : ∀ {l m : List Int}, UpW l → UpW m → (∀ x, x ∈ l ↔ x ∈ m) → l = m
  | [], [], _, _, _ => rfl
  | [], y :: m, _, _, h => by have := (h y).2 (by simp); simp at this
  | x :: l, [], _, _, h => by have := (h x).1 (by simp); simp at this
  | x :: l, y :: m, hl, hm, h => by
    obtain ⟨l1, l2⟩ := List.pairwise_cons.1 hl
    obtain ⟨m1, m2⟩ := List.pairwise_cons.1 hm
    have e : x = y := by
      rcases Int.lt_trichotomy x y with c | c | c
      · have := (h x).1 (by simp)
        rcases List.mem_cons.1 this with e | e
        · exact e
        · have := m1 x e; omega
      · exact c
      · have := (h y).2 (by simp)
        rcases List.mem_cons.1 this with e | e
        · exact e.symm
        · have := l1 y e; omega
    subst e
    congr 1
    refine up_ext l2 m2 (fun z => ⟨fun hz => ?_, fun hz => ?_⟩)
    · rcases List.mem_cons.1 ((h z).1 (by simp [hz])) with e | e
      · have := l1 z hz; omega
      · exact e
    · rcases List.mem_cons.1 ((h z).2 (by simp [hz])) with e | e
      · have := m1 z hz; omega
      · exact e
/-- The first one closed: the others are open as they were. -/
theorem left_mem {s : Int} {l : List PtW} {p : PtW} : p ∈ leftW s l ↔ p ∈ l ∧ p.start ≠ s := by unfold leftW; simp
theorem left_starts {s : Int} {l : List PtW} {t : List Int} (h : startsW l = s :: t) : startsW (leftW s l) = t := by
  have hu := starts_up l
  rw [h] at hu
  obtain ⟨u1, u2⟩ := List.pairwise_cons.1 hu
  refine up_ext (starts_up _) u2 (fun x => ?_)
  rw [starts_mem]
  have hx := starts_mem (s := x) l
  rw [h] at hx
  constructor
  · rintro ⟨p, hp, e⟩
    obtain ⟨p1, p2⟩ := left_mem.1 hp
    rcases List.mem_cons.1 (hx.2 ⟨p, p1, e⟩) with c | c
    · exact absurd (e.trans c) p2
    · exact c
  · intro c
    obtain ⟨p, p1, p2⟩ := hx.1 (by simp [c])
    exact ⟨p, left_mem.2 ⟨p1, fun e => by have := u1 x c; omega⟩, p2⟩
theorem left_rows {s x : Int} (h : x ≠ s) : ∀ (l : List PtW), rowsW x (leftW s l) = rowsW x l := by
  intro l
  unfold rowsW leftW
  suffices ∀ acc, (l.filter (fun p => decide (p.start ≠ s))).foldl (stepW x) acc = l.foldl (stepW x) acc from this []
  induction l with
  | nil => intro acc; rfl
  | cons p l ih =>
    intro acc
    by_cases hp : p.start = s
    · rw [List.filter_cons_of_neg (by simp [hp]), ih, List.foldl_cons]
      unfold stepW
      rw [if_neg (by omega)]
    · rw [List.filter_cons_of_pos (by simp [hp]), List.foldl_cons, List.foldl_cons, ih]

/-! A window's rows: by rising names, each once. -/
def RowsUp (l : List Rw) : Prop := l.Pairwise (fun a b => ltW (nmR a) (nmR b) = true)
theorem comeR_nm (r : Rw) (v : Int) : nmR (comeR r v) = nmR r := rfl
theorem beginR_nm (n : Nm) (v : Int) : nmR (beginR n.1 n.2 v) = n := rfl
theorem putW_nm {n x : Nm} {v : Int} : ∀ {l : List Rw}, (∃ r ∈ putW n v l, nmR r = x) ↔ x = n ∨ ∃ r ∈ l, nmR r = x
  | [] => by
    unfold putW
    simp only [List.mem_singleton, exists_eq_left, List.not_mem_nil, false_and, exists_false, or_false]
    rw [beginR_nm]; exact eq_comm
  | r :: l => by
    have ih := putW_nm (n := n) (x := x) (v := v) (l := l)
    unfold putW
    split
    · simp only [List.mem_cons, exists_eq_or_imp]
      rw [ih]
      constructor
      · rintro (h | h | h)
        · exact .inr (.inl h)
        · exact .inl h
        · exact .inr (.inr h)
      · rintro (h | h | h)
        · exact .inr (.inl h)
        · exact .inl h
        · exact .inr (.inr h)
    · split
      · rename_i h
        simp only [List.mem_cons, exists_eq_or_imp]
        rw [comeR_nm, h]
        constructor
        · rintro (h | h)
          · exact .inl h.symm
          · exact .inr (.inr h)
        · rintro (h | h | h)
          · exact .inl h.symm
          · exact .inl h
          · exact .inr h
      · simp only [List.mem_cons, exists_eq_or_imp]
        rw [beginR_nm]
        constructor
        · rintro (h | h)
          · exact .inl h.symm
          · exact .inr h
        · rintro (h | h)
          · exact .inl h.symm
          · exact .inr h
theorem putW_up {n : Nm} {v : Int} : ∀ {l : List Rw}, RowsUp l → RowsUp (putW n v l)
  | [], _ => by simp [putW, RowsUp]
  | r :: l, h => by
    obtain ⟨h1, h2⟩ := List.pairwise_cons.1 h
    unfold putW
    split
    · rename_i c
      refine List.pairwise_cons.2 ⟨fun q hq => ?_, putW_up h2⟩
      rcases putW_nm.1 ⟨q, hq, rfl⟩ with e | ⟨q', hq', e⟩
      · rw [e]; exact c
      · rw [← e]; exact h1 q' hq'
    · rename_i c
      split
      · exact List.pairwise_cons.2 ⟨h1, h2⟩
      · rename_i d
        have c2 : ltW n (nmR r) = true := by
          rcases ltW_tri (nmR r) n with e | e | e
          · exact absurd e c
          · exact absurd e d
          · exact e
        refine List.pairwise_cons.2 ⟨fun q hq => ?_, h⟩
        rw [beginR_nm]
        rcases List.mem_cons.1 hq with rfl | hq
        · exact c2
        · exact ltW_trans c2 (h1 q hq)
theorem rows_up (s : Int) (l : List PtW) : RowsUp (rowsW s l) := by
  unfold rowsW
  suffices ∀ acc, RowsUp acc → RowsUp (l.foldl (stepW s) acc) from this [] List.Pairwise.nil
  induction l with
  | nil => intro acc h; exact h
  | cons p l ih =>
    intro acc h
    refine ih _ ?_
    unfold stepW
    split
    · exact putW_up h
    · exact h
theorem rows_nm {s : Int} {x : Nm} (l : List PtW) : (∃ r ∈ rowsW s l, nmR r = x) ↔ ∃ p ∈ l, p.start = s ∧ p.nm = x := by
  unfold rowsW
  have : ∀ acc, (∃ r ∈ l.foldl (stepW s) acc, nmR r = x) ↔ (∃ p ∈ l, p.start = s ∧ p.nm = x) ∨ ∃ r ∈ acc, nmR r = x := by
    induction l with
    | nil => intro acc; simp
    | cons p l ih =>
      intro acc
      rw [List.foldl_cons, ih]
      simp only [List.mem_cons, exists_eq_or_imp]
      unfold stepW
      split
      · rename_i h
        rw [putW_nm]
        constructor
        · rintro (h1 | h1 | h1)
          · exact .inl (.inr h1)
          · exact .inl (.inl ⟨h, h1.symm⟩)
          · exact .inr h1
        · rintro ((h1 | h1) | h1)
          · exact .inr (.inl h1.2.symm)
          · exact .inl h1
          · exact .inr (.inr h1)
      · rename_i h
        constructor
        · rintro (h1 | h1)
          · exact .inl (.inr h1)
          · exact .inr h1
        · rintro ((h1 | h1) | h1)
          · exact absurd h1.1 h
          · exact .inl h1
          · exact .inr h1
  rw [this]; simp
/-- A window is open just if it has rows. -/
theorem rows_none {s : Int} {l : List PtW} : rowsW s l = [] ↔ s ∉ startsW l := by
  rw [starts_mem]
  constructor
  · rintro h ⟨p, hp, e⟩
    obtain ⟨r, hr, _⟩ := (rows_nm (s := s) (x := p.nm) l).2 ⟨p, hp, e, rfl⟩
    rw [h] at hr
    simp at hr
  · intro h
    cases e : rowsW s l with
    | nil => rfl
    | cons r t =>
      obtain ⟨p, hp, h1, _⟩ := (rows_nm (s := s) (x := nmR r) l).1 ⟨r, by rw [e]; simp, rfl⟩
      exact absurd ⟨p, hp, h1⟩ h
/-- Two lists of rows by rising names that have the same rows are one. -/
theorem rowsUp_ext : ∀ {l m : List Rw}, RowsUp l → RowsUp m → (∀ r, r ∈ l ↔ r ∈ m) → l = m
  | [], [], _, _, _ => rfl
  | [], y :: m, _, _, h => by have := (h y).2 (by simp); simp at this
  | x :: l, [], _, _, h => by have := (h x).1 (by simp); simp at this
  | x :: l, y :: m, hl, hm, h => by
    obtain ⟨l1, l2⟩ := List.pairwise_cons.1 hl
    obtain ⟨m1, m2⟩ := List.pairwise_cons.1 hm
    have e : x = y := by
      rcases List.mem_cons.1 ((h x).1 (by simp)) with e | e
      · exact e
      · rcases List.mem_cons.1 ((h y).2 (by simp)) with f | f
        · exact f.symm
        · have a1 := m1 x e
          have a2 := ltW_asymm (l1 y f)
          rw [a1] at a2
          cases a2
    subst e
    congr 1
    refine rowsUp_ext l2 m2 (fun z => ⟨fun hz => ?_, fun hz => ?_⟩)
    · rcases List.mem_cons.1 ((h z).1 (by simp [hz])) with e | e
      · subst e
        have := l1 z hz
        rw [ltW_irrefl] at this
        cases this
      · exact e
    · rcases List.mem_cons.1 ((h z).2 (by simp [hz])) with e | e
      · subst e
        have := m1 z hz
        rw [ltW_irrefl] at this
        cases this
      · exact e
/-- The row of a name. -/
def getW (n : Nm) : List Rw → Option Rw
  | [] => none
  | r :: l => if nmR r = n then some r else getW n l
theorem getW_mem {n : Nm} : ∀ {l : List Rw} {r : Rw}, getW n l = some r → r ∈ l ∧ nmR r = n
  | [], r, h => by cases h
  | q :: l, r, h => by
    unfold getW at h
    split at h
    · cases h
      exact ⟨by simp, by assumption⟩
    · obtain ⟨h1, h2⟩ := getW_mem h
      exact ⟨by simp [h1], h2⟩
theorem getW_none {n : Nm} : ∀ {l : List Rw}, getW n l = none ↔ ∀ r ∈ l, nmR r ≠ n
  | [] => by simp [getW]
  | q :: l => by
    unfold getW
    split
    · rename_i h
      constructor
      · intro e; cases e
      · intro e; exact absurd h (e q (by simp))
    · rename_i h
      rw [getW_none (l := l)]
      constructor
      · intro e r hr
        rcases List.mem_cons.1 hr with rfl | hr
        · exact h
        · exact e r hr
      · intro e r hr; exact e r (by simp [hr])
theorem getW_of {n : Nm} : ∀ {l : List Rw} {r : Rw}, RowsUp l → r ∈ l → nmR r = n → getW n l = some r
  | [], r, _, h, _ => by simp at h
  | q :: l, r, hu, h, e => by
    obtain ⟨u1, u2⟩ := List.pairwise_cons.1 hu
    unfold getW
    rcases List.mem_cons.1 h with rfl | h
    · rw [if_pos e]
    · rw [if_neg (fun k => ltW_ne (u1 r h) (k.trans e.symm)), getW_of u2 h e]
/-- What comes to the row of a name, and to the others. -/
def newW (n : Nm) (v : Int) : Option Rw → Rw
  | none => beginR n.1 n.2 v
  | some r => comeR r v
theorem getW_put {n : Nm} {v : Int} : ∀ {l : List Rw}, RowsUp l → getW n (putW n v l) = some (newW n v (getW n l))
  | [], _ => by
    show getW n [beginR n.1 n.2 v] = _
    unfold getW
    rw [beginR_nm, if_pos rfl]
    rfl
  | r :: l, hu => by
    obtain ⟨u1, u2⟩ := List.pairwise_cons.1 hu
    unfold putW
    split
    · rename_i c
      have d := ltW_ne c
      unfold getW
      rw [if_neg d, if_neg d]
      exact getW_put u2
    · rename_i c
      split
      · rename_i d
        unfold getW
        rw [comeR_nm, if_pos d, if_pos d]
        rfl
      · rename_i d
        have c2 : ltW n (nmR r) = true := by
          rcases ltW_tri (nmR r) n with e | e | e
          · exact absurd e c
          · exact absurd e d
          · exact e
        have h0 : getW n (r :: l) = none := getW_none.2 (fun q hq => by
          rcases List.mem_cons.1 hq with rfl | hq
          · exact d
          · exact fun e => ltW_ne (ltW_trans c2 (u1 q hq)) e.symm)
        rw [h0]
        unfold getW
        rw [beginR_nm, if_pos rfl]
        rfl
theorem getW_put_other {n x : Nm} {v : Int} (hx : x ≠ n) : ∀ {l : List Rw}, getW x (putW n v l) = getW x l
  | [] => by
    show getW x [beginR n.1 n.2 v] = _
    unfold getW
    rw [beginR_nm, if_neg (fun e => hx e.symm)]
    rfl
  | r :: l => by
    unfold putW
    split
    · unfold getW
      split
      · rfl
      · exact getW_put_other hx
    · split
      · rename_i d
        unfold getW
        rw [comeR_nm, d, if_neg (fun e => hx e.symm), if_neg (fun e => hx e.symm)]
      · show getW x (beginR n.1 n.2 v :: r :: l) = _
        conv => lhs; unfold getW
        rw [beginR_nm, if_neg (fun e => hx e.symm)]
theorem putW_length {n : Nm} {v : Int} : ∀ {l : List Rw}, RowsUp l → (putW n v l).length = l.length + (if getW n l = none then 1 else 0)
  | [], _ => by simp [putW, getW]
  | r :: l, hu => by
    obtain ⟨u1, u2⟩ := List.pairwise_cons.1 hu
    unfold putW
    split
    · rename_i c
      have ih := putW_length (n := n) (v := v) u2
      unfold getW
      rw [if_neg (ltW_ne c), List.length_cons, ih, List.length_cons]
      omega
    · rename_i c
      split
      · rename_i d
        unfold getW
        rw [if_pos d]
        simp
      · rename_i d
        have c2 : ltW n (nmR r) = true := by
          rcases ltW_tri (nmR r) n with e | e | e
          · exact absurd e c
          · exact absurd e d
          · exact e
        rw [if_pos (getW_none.2 (fun q hq => by
          rcases List.mem_cons.1 hq with rfl | hq
          · exact d
          · exact fun e => ltW_ne (ltW_trans c2 (u1 q hq)) e.symm))]
        simp
end Go.Proofs.YtedhciolnekpaaaGreatDoor
namespace Go.Proofs.YtedhciolnekpaaaGreatDoor
set_option linter.unusedVariables false

/-- How many values rows have. -/
def manyW (l : List Rw) : Nat := (l.map (·.many)).sum
def cntW (s : Int) (l : List PtW) : Nat := (l.filter (fun p => decide (p.start = s))).length
theorem many_le {l : List Rw} {r : Rw} (h : r ∈ l) : r.many ≤ manyW l := by
  induction l with
  | nil => simp at h
  | cons q l ih =>
    unfold manyW at *
    rw [List.map_cons, List.sum_cons]
    rcases List.mem_cons.1 h with rfl | h
    · omega
    · have := ih h; omega
theorem putW_many {n : Nm} {v : Int} : ∀ {l : List Rw}, manyW l ≤ 1000 → manyW (putW n v l) = manyW l + 1
  | [], _ => rfl
  | r :: l, h => by
    have e : ∀ q : Rw, ∀ l, manyW (q :: l) = q.many + manyW l := fun q l => rfl
    rw [e] at h
    unfold putW
    split
    · rw [e, e, putW_many (l := l) (by omega)]; omega
    · split
      · rw [e, e]
        have : (comeR r v).many = r.many + 1 := by show upN r.many = _; unfold upN; rw [if_pos (by omega)]
        omega
      · rw [e, e]
        have : (beginR n.1 n.2 v).many = 1 := rfl
        omega
theorem rows_many (s : Int) : ∀ (l : List PtW), l.length ≤ 1000 → manyW (rowsW s l) = cntW s l := by
  intro l hl
  unfold rowsW cntW
  suffices ∀ acc : List Rw, manyW acc + l.length ≤ 1000 → manyW (l.foldl (stepW s) acc) = manyW acc + (l.filter (fun p => decide (p.start = s))).length by
    have h := this [] (by simpa [manyW] using hl)
    rw [h]; simp [manyW]
  clear hl
  induction l with
  | nil => intro acc _; rfl
  | cons p l ih =>
    intro acc h
    rw [List.length_cons] at h
    rw [List.foldl_cons]
    unfold stepW
    by_cases c : p.start = s
    · have e := putW_many (n := p.nm) (v := p.val) (l := acc) (by omega)
      rw [if_pos c, List.filter_cons_of_pos (by simp [c]), List.length_cons]
      have := ih (putW p.nm p.val acc) (by omega)
      unfold stepW at this
      rw [this, e]; omega
    · rw [if_neg c, List.filter_cons_of_neg (by simp [c])]
      have := ih acc (by omega)
      unfold stepW at this
      exact this
theorem left_length (s : Int) : ∀ (l : List PtW), (leftW s l).length + cntW s l = l.length
  | [] => rfl
  | p :: l => by
    have ih := left_length s l
    unfold leftW cntW at *
    by_cases c : p.start = s
    · rw [List.filter_cons_of_neg (by simp [c]), List.filter_cons_of_pos (by simp [c]), List.length_cons, List.length_cons]; omega
    · rw [List.filter_cons_of_pos (by simp [c]), List.filter_cons_of_neg (by simp [c]), List.length_cons, List.length_cons]; omega
theorem insW_length (s : Int) : ∀ (l : List Int), (insW s l).length = l.length + (if s ∈ l then 0 else 1) ∨ ¬ UpW l
  | [] => .inl rfl
  | x :: l => by
    by_cases hu : UpW (x :: l)
    · left
      obtain ⟨u1, u2⟩ := List.pairwise_cons.1 hu
      rcases insW_length s l with ih | ih
      · unfold insW
        split
        · rename_i c
          rw [List.length_cons, ih, List.length_cons]
          have : (s ∈ x :: l) ↔ s ∈ l := by
            rw [List.mem_cons]
            constructor
            · rintro (e | e)
              · omega
              · exact e
            · exact .inr
          by_cases d : s ∈ l
          · rw [if_pos d, if_pos (this.2 d)]
          · rw [if_neg d, if_neg (fun e => d (this.1 e))]
        · split
          · rename_i c
            subst c
            simp
          · rename_i c d
            rw [if_neg]
            · rfl
            · intro e
              rcases List.mem_cons.1 e with e | e
              · exact d e.symm
              · have := u1 s e; omega
      · exact absurd u2 ih
    · exact .inr hu
theorem starts_len_next (l : List PtW) (p : PtW) : (startsW (l ++ [p])).length = (startsW l).length + (if p.start ∈ startsW l then 0 else 1) := by
  rw [starts_next]
  rcases insW_length p.start (startsW l) with h | h
  · exact h
  · exact absurd (starts_up l) h
theorem insW_le (s : Int) : ∀ (l : List Int), (insW s l).length ≤ l.length + 1
  | [] => by simp [insW]
  | x :: l => by
    have := insW_le s l
    unfold insW
    split
    · simp only [List.length_cons]; omega
    · split <;> simp
theorem starts_le (l : List PtW) : (startsW l).length ≤ l.length := by
  unfold startsW
  suffices ∀ acc : List Int, (l.foldl (fun acc p => insW p.start acc) acc).length ≤ acc.length + l.length by simpa using this []
  induction l with
  | nil => intro acc; simp
  | cons p l ih =>
    intro acc
    have := ih (insW p.start acc)
    have := insW_le p.start acc
    simp only [List.foldl_cons, List.length_cons]
    omega
theorem putW_le (n : Nm) (v : Int) : ∀ (l : List Rw), (putW n v l).length ≤ l.length + 1
  | [] => by simp [putW]
  | r :: l => by
    have := putW_le n v l
    unfold putW
    split
    · simp only [List.length_cons]; omega
    · split <;> simp
theorem rows_le (s : Int) (l : List PtW) : (rowsW s l).length ≤ l.length := by
  unfold rowsW
  suffices ∀ acc : List Rw, (l.foldl (stepW s) acc).length ≤ acc.length + l.length by simpa using this []
  induction l with
  | nil => intro acc; simp
  | cons p l ih =>
    intro acc
    have h1 := ih (stepW s acc p)
    have h2 : (stepW s acc p).length ≤ acc.length + 1 := by
      unfold stepW
      split
      · exact putW_le _ _ _
      · omega
    simp only [List.foldl_cons, List.length_cons]
    omega
/-- How many rows all windows have. -/
def allW (l : List PtW) : Nat := ((startsW l).map (fun s => (rowsW s l).length)).sum
theorem sum_same {f g : Int → Nat} : ∀ {l : List Int}, (∀ x ∈ l, f x = g x) → (l.map f).sum = (l.map g).sum
  | [], _ => rfl
  | x :: l, h => by
    rw [List.map_cons, List.map_cons, List.sum_cons, List.sum_cons, h x (by simp), sum_same (fun y hy => h y (by simp [hy]))]
theorem sum_one {f g : Int → Nat} {s : Int} {d : Nat} : ∀ {l : List Int}, UpW l → s ∈ l → (∀ x ∈ l, x ≠ s → f x = g x) → f s = g s + d → (l.map f).sum = (l.map g).sum + d
  | [], _, h, _, _ => by simp at h
  | x :: l, hu, h, hx, hs => by
    obtain ⟨u1, u2⟩ := List.pairwise_cons.1 hu
    rw [List.map_cons, List.map_cons, List.sum_cons, List.sum_cons]
    by_cases c : x = s
    · subst c
      rw [hs, sum_same (f := f) (g := g) (fun y hy => hx y (by simp [hy]) (fun e => by have := u1 y hy; omega))]
      omega
    · rw [hx x (by simp) c, sum_one (f := f) (g := g) u2 (by rcases List.mem_cons.1 h with e | e; exact absurd e.symm c; exact e) (fun y hy => hx y (by simp [hy])) hs]
      omega
theorem insW_sum {f : Int → Nat} {s : Int} : ∀ {l : List Int}, s ∉ l → ((insW s l).map f).sum = (l.map f).sum + f s
  | [], _ => by simp [insW]
  | x :: l, h => by
    unfold insW
    split
    · rw [List.map_cons, List.sum_cons, insW_sum (l := l) (fun e => h (by simp [e])), List.map_cons, List.sum_cons]; omega
    · split
      · rename_i c
        exact absurd (by simp [c]) h
      · rw [List.map_cons, List.sum_cons]; omega
theorem insW_in {s : Int} : ∀ {l : List Int}, UpW l → s ∈ l → insW s l = l
  | [], _, h => by simp at h
  | x :: l, hu, h => by
    obtain ⟨u1, u2⟩ := List.pairwise_cons.1 hu
    unfold insW
    split
    · rename_i c
      rw [insW_in u2 (by rcases List.mem_cons.1 h with e | e; omega; exact e)]
    · rename_i c
      rcases List.mem_cons.1 h with e | e
      · rw [if_pos e.symm]
      · have := u1 s e; omega
/-- A value that comes: one row more, if there was none of its name. -/
theorem all_next (l : List PtW) (p : PtW) : allW (l ++ [p]) = allW l + (if getW p.nm (rowsW p.start l) = none then 1 else 0) := by
  unfold allW
  have hs : (rowsW p.start (l ++ [p])).length = (rowsW p.start l).length + (if getW p.nm (rowsW p.start l) = none then 1 else 0) := by
    rw [rows_same rfl, putW_length (rows_up _ _)]
  have ho : ∀ x, x ≠ p.start → (rowsW x (l ++ [p])).length = (rowsW x l).length := fun x hx => by rw [rows_other (fun e => hx e.symm)]
  rw [starts_next]
  by_cases c : p.start ∈ startsW l
  · rw [insW_in (starts_up l) c]
    exact sum_one (starts_up l) c (fun x _ hx => ho x hx) hs
  · rw [insW_sum c, sum_same (g := fun s => (rowsW s l).length) (fun x hx => ho x (fun e => c (e ▸ hx))), hs, rows_none.2 c]
    simp [getW]
theorem all_left {s : Int} {l : List PtW} {t : List Int} (h : startsW l = s :: t) : allW l = (rowsW s l).length + allW (leftW s l) := by
  unfold allW
  have hu := starts_up l
  rw [h] at hu
  obtain ⟨u1, _⟩ := List.pairwise_cons.1 hu
  rw [left_starts h, h, List.map_cons, List.sum_cons, sum_same (f := fun x => (rowsW x (leftW s l)).length) (fun x hx => by show (rowsW x (leftW s l)).length = (rowsW x l).length; rw [left_rows (fun e => by have := u1 x hx; omega)])]

/-! A row that may be, its key aside. -/
structure GoodW (r : Rw) : Prop where
  ok : OkR r
  k1 : 1 ≤ r.kind
  k3 : r.kind ≤ 3
  m1 : 1 ≤ r.many
  lm : r.least ≤ r.most
  b0 : r.kind ≠ 3 → r.bks = []
  b3 : r.kind = 3 → 1 ≤ r.bks.length ∧ r.bks.length ≤ 65 ∧ r.bks[r.bks.length - 1]?.getD 0 ≠ 0
theorem incN_last {l : List Nat} {b : Nat} (h : l = [] ∨ l[l.length - 1]?.getD 0 ≠ 0) : (incN l b)[(incN l b).length - 1]?.getD 0 ≠ 0 := by
  rw [incN_length]
  have up : ∀ n, upN n ≠ 0 := fun n => by unfold upN; split <;> omega
  by_cases c : l.length ≤ b
  · have e : max l.length (b + 1) - 1 = b := by omega
    rw [e]
    unfold incN
    rw [List.getElem?_set_self (by rw [padN_length]; omega)]
    exact up _
  · have e : max l.length (b + 1) - 1 = l.length - 1 := by omega
    rw [e]
    unfold incN
    rw [padN_more (by omega)]
    by_cases d : b = l.length - 1
    · subst d
      rw [List.getElem?_set_self (by omega)]
      exact up _
    · rw [List.getElem?_set_ne d]
      rcases h with h | h
      · rw [h] at c; simp at c
      · exact h
theorem beginR_good {n : Nm} {v : Int} (h1 : 1 ≤ n.2) (h3 : n.2 ≤ 3) (hv : In64 v) : GoodW (beginR n.1 n.2 v) := by
  have hb : (beginR n.1 n.2 v).bks = if n.2 = 3 then incN [] (bkt v) else [] := rfl
  refine ⟨OkR.begin _ _ hv, h1, h3, Nat.le_refl _, Int.le_refl _, fun h => ?_, fun h => ?_⟩
  · have h : ¬ n.2 = 3 := h
    rw [hb, if_neg h]
  · have h : n.2 = 3 := h
    rw [hb, if_pos h]
    have := bkt_le hv.2
    have hl := incN_length [] (bkt v)
    simp only [List.length_nil] at hl
    exact ⟨by omega, by omega, incN_last (.inl rfl)⟩
theorem comeR_good {r : Rw} {v : Int} (h : GoodW r) (hv : In64 v) : GoodW (comeR r v) := by
  have hb : (comeR r v).bks = if r.kind = 3 then incN r.bks (bkt v) else r.bks := rfl
  have hlm := h.lm
  refine ⟨h.ok.come hv, h.k1, h.k3, ?_, ?_, fun k => ?_, fun k => ?_⟩
  · show 1 ≤ upN r.many
    have := h.m1
    unfold upN
    split <;> omega
  · show (if v < r.least then v else r.least) ≤ (if r.most < v then v else r.most)
    split <;> split <;> omega
  · have k : r.kind ≠ 3 := k
    rw [hb, if_neg k]; exact h.b0 k
  · have k : r.kind = 3 := k
    obtain ⟨b1, b2, b3⟩ := h.b3 k
    rw [hb, if_pos k]
    have := bkt_le hv.2
    have hl := incN_length r.bks (bkt v)
    exact ⟨by omega, by omega, incN_last (.inr b3)⟩
/-- A value that may come. -/
structure PtOk (p : PtW) : Prop where
  k1 : 1 ≤ p.nm.2
  k3 : p.nm.2 ≤ 3
  v : In64 p.val
theorem putW_good {n : Nm} {v : Int} (h1 : 1 ≤ n.2) (h3 : n.2 ≤ 3) (hv : In64 v) : ∀ {l : List Rw}, (∀ r ∈ l, GoodW r) → ∀ r ∈ putW n v l, GoodW r
  | [], _ => fun r hr => by
    obtain rfl : r = beginR n.1 n.2 v := by simpa [putW] using hr
    exact beginR_good h1 h3 hv
  | q :: l, h => fun r hr => by
    unfold putW at hr
    split at hr
    · rcases List.mem_cons.1 hr with rfl | hr
      · exact h _ (by simp)
      · exact putW_good h1 h3 hv (fun x hx => h x (by simp [hx])) r hr
    · split at hr
      · rcases List.mem_cons.1 hr with rfl | hr
        · exact comeR_good (h _ (by simp)) hv
        · exact h r (by simp [hr])
      · rcases List.mem_cons.1 hr with rfl | hr
        · exact beginR_good h1 h3 hv
        · exact h r hr
theorem rows_good (s : Int) {l : List PtW} (h : ∀ p ∈ l, PtOk p) : ∀ r ∈ rowsW s l, GoodW r := by
  unfold rowsW
  suffices ∀ acc : List Rw, (∀ r ∈ acc, GoodW r) → ∀ r ∈ l.foldl (stepW s) acc, GoodW r from this [] (fun r hr => by simp at hr)
  induction l with
  | nil => intro acc ha; exact ha
  | cons p l ih =>
    intro acc ha
    refine ih (fun q hq => h q (by simp [hq])) _ ?_
    have hp := h p (by simp)
    unfold stepW
    split
    · exact putW_good hp.k1 hp.k3 hp.v ha
    · exact ha
/-- The window of a time. -/
def startOf (width time : Int) : Int := time - time % width
theorem startOf_bd {width time : Int} (hw : 1 ≤ width) (ht : 0 ≤ time) : 0 ≤ startOf width time ∧ startOf width time ≤ time ∧ time < startOf width time + width ∧ startOf width time % width = 0 := by
  unfold startOf
  have h1 := Int.emod_nonneg time (show width ≠ 0 by omega)
  have h2 := Int.emod_lt_of_pos time (show 0 < width by omega)
  have h3 : time % width ≤ time := by
    have e := Int.mul_ediv_add_emod time width
    have q := Int.mul_nonneg (show 0 ≤ width by omega) (Int.ediv_nonneg ht (show 0 ≤ width by omega))
    omega
  refine ⟨?_, by omega, by omega, ?_⟩
  · omega
  · have e := Int.mul_ediv_add_emod time width
    rw [show time - time % width = width * (time / width) by omega, Int.mul_emod_right]
theorem startOf_mul {width time : Int} : time / width * width = startOf width time := by
  unfold startOf
  have := Int.mul_ediv_add_emod time width
  rw [Int.mul_comm] at this
  omega
end Go.Proofs.YtedhciolnekpaaaGreatDoor
namespace Go.Proofs.YtedhciolnekpaaaGreatDoor
open Go.RowKit
set_option linter.unusedVariables false

theorem heap_set_other {w : World} {a : Addr} {v : Value} {k : Nat} (h : k ≠ a.block) : (w.setCell a v).heap[k]? = w.heap[k]? := by
  simp only [World.setCell]
  rw [Array.getElem?_modify, if_neg (fun e => h e.symm)]
theorem heap_set_same {w : World} {b o : Nat} {v : Value} {c : Array Value} {t : TypeId} {f : Nat × Nat} (h : w.heap[b]? = some (.cells c t f)) :
    (w.setCell ⟨b, o, none⟩ v).heap[b]? = some (.cells (c.setIfInBounds o v) t f) := by
  simp only [World.setCell]
  rw [Array.getElem?_modify, if_pos rfl, h]
  rfl
theorem cell_of_block {w : World} {b o : Nat} {c : Array Value} {t : TypeId} {f : Nat × Nat} (h : w.heap[b]? = some (.cells c t f)) : w.cell? ⟨b, o, none⟩ = c[o]? := by
  simp [World.cell?, h]
theorem frozen_of_block {w : World} {b o : Nat} {c : Array Value} {t : TypeId} (h : w.heap[b]? = some (.cells c t (0, 0))) : w.frozen? ⟨b, o, none⟩ = false := by
  simp [World.frozen?, h]
theorem lt_of_block {w : World} {b : Nat} {o : Obj} (h : w.heap[b]? = some o) : b < w.heap.size := (Array.getElem?_eq_some_iff.1 h).1

theorem grown_refl (w : World) (r : Option Nat) : w.grownBy w r := ⟨rfl, rfl, rfl, Nat.le_refl _, fun _ _ _ => rfl⟩
theorem grown_trans {w w1 w2 : World} {r : Option Nat} (g : w.grownBy w1 r) (h : w1.grownBy w2 r) : w.grownBy w2 r :=
  ⟨h.os.trans g.os, h.tape.trans g.tape, h.output.trans g.output, Nat.le_trans g.size h.size, fun k hk hr => (h.block k (Nat.lt_of_lt_of_le hk g.size) hr).trans (g.block k hk hr)⟩
theorem grown_of_below {w w1 w2 : World} {r : Option Nat} {B : Nat} (g : w.grownBy w1 r) (h : Below B w1 w2) (hB : w.heap.size ≤ B) : w.grownBy w2 r :=
  ⟨h.os.trans g.os, h.tape.trans g.tape, h.output.trans g.output, Nat.le_trans g.size h.size, fun k hk hr => (h.block k (Nat.lt_of_lt_of_le hk hB)).trans (g.block k hk hr)⟩
theorem grown_set {w w1 : World} {r : Option Nat} (g : w.grownBy w1 r) (a : Addr) (v : Value) (h : some a.block = r ∨ w.heap.size ≤ a.block) : w.grownBy (w1.setCell a v) r :=
  ⟨g.os, g.tape, g.output, by rw [World.size_setCell]; exact g.size, fun k hk hr => by
    rw [heap_set_other]
    · exact g.block k hk hr
    · intro e
      subst e
      rcases h with h | h
      · exact hr h
      · omega⟩
theorem grown_drew {w w1 : World} {r : Option Nat} (g : w.grownBy w1 r) (n : Nat) : w.grownBy (w1.drewN n) r :=
  ⟨g.os, g.tape, g.output, g.size, fun k hk hr => g.block k hk hr⟩
theorem grown_alloc {w w1 : World} {r : Option Nat} (g : w.grownBy w1 r) (o : Obj) : w.grownBy (w1.alloc o) r :=
  grown_trans g (World.grownBy_alloc _ _ _)
theorem grown_less {w w0 w1 : World} {r : Option Nat} (h0 : w0.grownBy w none) (g : w.grownBy w1 r) (h : ∀ k, r = some k → w0.heap.size ≤ k) : w0.grownBy w1 none :=
  ⟨g.os.trans h0.os, g.tape.trans h0.tape, g.output.trans h0.output, Nat.le_trans h0.size g.size, fun k hk _ => (g.block k (Nat.lt_of_lt_of_le hk h0.size) (fun e => by have := h k e.symm; omega)).trans (h0.block k hk (by simp))⟩
theorem below_of_grown {w w1 : World} (g : w.grownBy w1 none) : Below w.heap.size w w1 := ⟨g.os, g.tape, g.output, g.size, fun k hk => g.block k hk (by simp)⟩
theorem grown_of {w w1 : World} {r : Option Nat} (h : Below w.heap.size w w1) : w.grownBy w1 r := grown_of_below (grown_refl _ _) h (Nat.le_refl _)

/-- The reader in block b stands at place k of the text s. -/
def Rd (w : World) (b : Nat) (s : ByteArray) (k : Nat) : Prop := w.heap[b]? = some (.cells #[.string s, .int .i64 k] 125 (0, 0))
section
variable {w w' : World} {b : Nat} {s : ByteArray} {k : Nat}
theorem Rd.c0 (h : Rd w b s k) : w.cell? ⟨b, 0, none⟩ = some (.string s) := cell_of_block h
theorem Rd.c1 (h : Rd w b s k) : w.cell? ⟨b, 1, none⟩ = some (.int .i64 k) := cell_of_block h
theorem Rd.f1 (h : Rd w b s k) : w.frozen? ⟨b, 1, none⟩ = false := frozen_of_block h
theorem Rd.set (h : Rd w b s k) (j : Nat) : Rd (w.setCell ⟨b, 1, none⟩ (.int .i64 j)) b s j := heap_set_same h
theorem Rd.drew (h : Rd w b s k) (n : Nat) : Rd (w.drewN n) b s k := h
theorem Rd.other (h : Rd w b s k) (a : Addr) (v : Value) (ha : b ≠ a.block) : Rd (w.setCell a v) b s k := by
  unfold Rd; rw [heap_set_other ha]; exact h
theorem Rd.below (h : Rd w b s k) (hb : Below w.heap.size w w') : Rd w' b s k := by
  unfold Rd; rw [hb.block b (lt_of_block h)]; exact h
theorem Rd.alloc (h : Rd w b s k) (o : Obj) : Rd (w.alloc o) b s k := by
  unfold Rd; rw [(World.grownBy_alloc w o none).block b (lt_of_block h) (by simp)]; exact h
theorem Rd.lt (h : Rd w b s k) : b < w.heap.size := lt_of_block h
end

/-- What becomes of the world while a reader's method runs. -/
structure Mv (w : World) (b : Nat) (s : ByteArray) (k : Nat) (w' : World) : Prop where
  grown : w.grownBy w' (some b)
  rd : Rd w' b s k
section
variable {w w1 w2 : World} {b : Nat} {s : ByteArray} {k j : Nat}
theorem Mv.drew (h : Mv w b s k w1) (n : Nat) : Mv w b s k (w1.drewN n) := ⟨grown_drew h.grown n, h.rd⟩
theorem Mv.trans (h : Mv w b s k w1) (g : Mv w1 b s j w2) : Mv w b s j w2 := ⟨grown_trans h.grown g.grown, g.rd⟩
theorem Mv.alloc (h : Mv w b s k w1) (o : Obj) : Mv w b s k (w1.alloc o) := ⟨grown_alloc h.grown o, h.rd.alloc o⟩
theorem Mv.drew1 (h : Mv w b s k w1) : Mv w b s k w1.drew := ⟨⟨h.grown.os, h.grown.tape, h.grown.output, h.grown.size, h.grown.block⟩, h.rd⟩
theorem Mv.put (h : Mv w b s k w1) (a : Addr) (v : Value) (hb : b < w.heap.size) (ha : w.heap.size ≤ a.block) : Mv w b s k (w1.setCell a v) :=
  ⟨grown_set h.grown a v (Or.inr ha), h.rd.other a v (by omega)⟩
theorem Mv.below (h : Mv w b s k w1) (g : Below w.heap.size w1 w2) (hb : b < w.heap.size) : Mv w b s k w2 :=
  ⟨grown_of_below h.grown g (Nat.le_refl _), by unfold Rd; rw [g.block b hb]; exact h.rd⟩
end
end Go.Proofs.YtedhciolnekpaaaGreatDoor
namespace Go.Proofs.YtedhciolnekpaaaGreatDoor
open Go.ChangeShapes Go.WideShapes Go.ChangeAt Go.RowKit
set_option linter.unusedVariables false

theorem infoB : (Tryz.prog.info? 5).map (fun i => (i.zero, i.size, i.bytes)) = some (some (.int .u8 0), 1, 1) := by kernel_rfl
theorem info_parts {e : TypeId} {z : Value} {b : Nat} (h : (Tryz.prog.info? e).map (fun i => (i.zero, i.size, i.bytes)) = some (some z, 1, b)) :
    ∃ i, Tryz.prog.info? e = some i ∧ i.zero = some z ∧ i.size = 1 ∧ i.bytes = b := by
  cases hi : Tryz.prog.info? e with
  | none => rw [hi] at h; cases h
  | some i =>
    rw [hi] at h
    simp at h
    exact ⟨i, rfl, h.1, h.2.1, h.2.2⟩
/-- v is a row of bytes of one's own (or nil), and holds l. -/
def OB (w : World) (B : Nat) (v : Value) (l : List UInt8) : Prop := w.ownsRow B 5 1 v l.length (Lib.byteCells l)
/-- What becomes of a world while such a row grows. -/
structure Gr (B : Nat) (w w' : World) : Prop where
  below : Below B w w'
  kept : Lib.OthersKept 5 none w w'
theorem Gr.refl (B : Nat) (w : World) : Gr B w w := ⟨Below.refl _ _, Lib.OthersKept.refl _ _ _⟩
theorem Gr.trans {B : Nat} {w w1 w2 : World} (h : Gr B w w1) (k : Gr B w1 w2) : Gr B w w2 := ⟨h.below.trans k.below, h.kept.trans k.kept⟩
theorem Gr.alloc {B : Nat} {w w1 : World} (h : Gr B w w1) (hB : B ≤ w1.heap.size) (o : Obj) : Gr B w (w1.alloc o) := ⟨h.below.alloc hB _, h.kept.alloc _⟩
theorem Gr.size {B : Nat} {w w1 : World} (h : Gr B w w1) : w.heap.size ≤ w1.heap.size := h.below.size
theorem OB.nil (w : World) (B : Nat) : OB w B (.slice none 0 0) [] := World.ownsRow_nil _ _ _ _
theorem OB.alloc {w : World} {B : Nat} {v : Value} {l : List UInt8} (h : OB w B v l) (o : Obj) : OB (w.alloc o) B v l := World.ownsRow.alloc h o
theorem OB.kind {w : World} {B : Nat} {v : Value} {l : List UInt8} (h : OB w B v l) : ∀ g, v.ownBlock = some g → ∃ c fz, w.heap[g]? = some (.cells c 5 fz) := by
  intro g hg
  rcases h.2 with ⟨rfl, _⟩ | ⟨g', cap, cur, rfl, _, hc, _⟩
  · cases hg
  · simp only [Value.ownBlock, Option.some.injEq] at hg
    subst hg
    exact ⟨_, _, hc⟩
theorem OB.grown {w w' : World} {B : Nat} {v : Value} {l : List UInt8} (h : OB w B v l) (hB : B ≤ w.heap.size) (g : w.grownBy w' v.ownBlock) : Gr B w w' :=
  ⟨⟨g.os, g.tape, g.output, g.size, fun k hk => g.block k (by omega) (fun e => by have := World.ownsRow.lt h k e.symm; omega)⟩,
   fun k o hk _ ho => by
      rw [g.block k (lt_of_block hk) (fun e => by obtain ⟨c, fz, hc⟩ := h.kind k e.symm; rw [hk] at hc; cases hc; exact ho _ _ rfl)]
      exact hk⟩
theorem byteCells_app (x y : List UInt8) : Lib.byteCells (x ++ y) = Lib.byteCells x ++ Lib.byteCells y := by unfold Lib.byteCells; rw [List.map_append]
theorem ob_str {w : World} {B : Nat} {v : Value} {l : List UInt8} (h : OB w B v l) (s : ByteArray) (hl : l.length + s.size ≤ 1000000) (hB : B ≤ w.heap.size) :
    ∃ v' w', (Builtin.append_ #[130, 9] 130 #[v, .string s]).run Tryz.prog w = .ok v' w' ∧ OB w' B v' (l ++ s.data.toList) ∧ Gr B w w' := by
  obtain ⟨i, hi, hz0, hz1, hz2⟩ := info_parts infoB
  obtain ⟨v', w', hrun, hown, hgr, _⟩ := Lib.run_append_own_string (P := Tryz.prog) w B 130 9 130 5 i Tryz.underlying130 Tryz.underlying9 hi hz0 hz1 hz2 v _ _ h s (by unfold maxLen; omega) (by omega) hB
  refine ⟨v', w', hrun, ?_, h.grown hB hgr⟩
  unfold OB
  rw [byteCells_app, List.length_append, show s.data.toList.length = s.size by simp]
  exact hown
theorem ob_lit {w : World} {B : Nat} {v : Value} {l : List UInt8} (h : OB w B v l) (ys : List UInt8) (hl : l.length + ys.length ≤ 1000000) (hB : B ≤ w.heap.size) :
    ∃ v' w', (Builtin.append_ #[130, 130] 130 #[v, .slice (some ⟨w.heap.size, 0, none⟩) ys.length ys.length]).run Tryz.prog (w.alloc (.cells (Lib.byteCells ys).toArray 5)) = .ok v' w' ∧ OB w' B v' (l ++ ys) ∧ Gr B w w' := by
  obtain ⟨i, hi, hz0, hz1, hz2⟩ := info_parts infoB
  have hB' : B ≤ (w.alloc (.cells (Lib.byteCells ys).toArray 5)).heap.size := by simp; omega
  obtain ⟨v', w', hrun, hown, hgr, _⟩ := run_append_own (P := Tryz.prog) (w.alloc (.cells (Lib.byteCells ys).toArray 5)) B 130 130 5 i (.int .u8 0) 1 1 Tryz.underlying130 hi hz0 hz1 hz2 rfl (by omega) _ _ _ (h.alloc _) ⟨w.heap.size, 0, none⟩ ys.length ys.length (Lib.byteCells ys) (by simp [Lib.byteCells_length])
    (fun j u hu => by
      rw [show (⟨w.heap.size, 0, none⟩ : Addr).add j = ⟨w.heap.size, j, none⟩ by simp [Addr.add_lit], cell_of_block (heap_alloc_new w _)]
      simpa using hu)
    (fun u hu => by unfold Lib.byteCells at hu; obtain ⟨x, _, rfl⟩ := List.mem_map.1 hu; rfl) (by unfold maxLen; omega) (by omega) hB'
  refine ⟨v', w', hrun, ?_, ((Gr.refl B w).alloc hB _).trans ((h.alloc _).grown hB' hgr)⟩
  unfold OB
  rw [byteCells_app, List.length_append]
  exact hown
theorem OB.conv {w : World} {B : Nat} {v : Value} {l : List UInt8} (h : OB w B v l) (hl : l ≠ []) : (convert 130 9 v).run Tryz.prog w = .ok (.string ⟨l.toArray⟩) w := by
  rcases h.2 with ⟨rfl, e⟩ | ⟨g, cap, cur, rfl, _, hc, _, _, _, ht⟩
  · exact absurd (List.length_eq_zero_iff.1 e) hl
  · refine run_convert_bytes_back (P := Tryz.prog) w 130 9 5 ⟨g, 0, none⟩ cap l Tryz.underlying130 Tryz.underlying5 Tryz.underlying9 (fun j hj => ?_)
    exact World.ownsRow.cells h (g := g) rfl j _ (by unfold Lib.byteCells; rw [List.getElem?_map, List.getElem?_eq_getElem hj]; rfl)
theorem wpList_append_two {P : Program} {w w' : World} {ops : Array Oper} {rest : List Oper} {o : Oper} {a : Act} {Q : Exit → Act → World → Prop} (hgd : Region.wanted o (yielded ops a.tmps) = true) (s x : Operand) (t u : TypeId)
    (ho : o.op = .call { callee := .builtin .append, args := #[s, x], argTypes := #[t, u] }) (vs vx v' : Value) (hs : a.eval s = vs) (hx : a.eval x = vx)
    (hrun : (Builtin.append_ #[t, u] o.type #[vs, vx]).run P w = .ok v' w') (h : wpList P ops Q rest (a.put o.dst v') w') : wpList P ops Q (o :: rest) a w := by
  refine wpList_step fun K hK => ?_
  rw [if_pos hgd]
  unfold Oper.wp
  simp [execOp, ho, resolve, invoke, builtin, hs, hx, hrun, Result.andThen]
  exact hK _ _ h
theorem Gr.block {B : Nat} {w w' : World} (g : Gr B w w') {k : Nat} {o : Obj} (h : w.heap[k]? = some o) (ho : ∀ c fz, o ≠ .cells c 5 fz) : w'.heap[k]? = some o := g.kept k o h (by simp) ho
/-- A slice of bytes, nil or not, that reads as this list. -/
structure RdS (w : World) (A : Option Addr) (cap : Nat) (l : List UInt8) : Prop where
  le : l.length ≤ cap
  nn : A = none → cap = 0
  rd : ∀ ad, A = some ad → ∀ i c, l[i]? = some c → w.cell? (ad.add i) = some (.int .u8 c.toNat)
theorem RdS.nil (w : World) : RdS w none 0 [] := ⟨Nat.le_refl _, fun _ => rfl, fun _ h => by cases h⟩
theorem RdS.below {w w' : World} {B : Nat} {A : Option Addr} {cap : Nat} {l : List UInt8} (h : RdS w A cap l) (hb : Below B w w') (hB : w.heap.size ≤ B) : RdS w' A cap l :=
  ⟨h.le, h.nn, fun ad ha i c hc => by
    have h1 := h.rd ad ha i c hc
    have h2 := World.block_lt_of_cell? w _ h1
    rw [hb.cell (by omega)]; exact h1⟩
theorem RdS.drew {w : World} {A : Option Addr} {cap : Nat} {l : List UInt8} (h : RdS w A cap l) (n : Nat) : RdS (w.drewN n) A cap l := ⟨h.le, h.nn, h.rd⟩
theorem RdS.alloc {w : World} {A : Option Addr} {cap : Nat} {l : List UInt8} (h : RdS w A cap l) (o : Obj) : RdS (w.alloc o) A cap l :=
  h.below ((Below.refl w.heap.size w).alloc (Nat.le_refl _) o) (Nat.le_refl _)
theorem RdS.some_of {w : World} {A : Option Addr} {cap : Nat} {l : List UInt8} (h : RdS w A cap l) (hl : 0 < l.length) : ∃ ad, A = some ad := by
  cases A with
  | none => have := h.nn rfl; have := h.le; omega
  | some ad => exact ⟨ad, rfl⟩
theorem OB.rd {w : World} {B : Nat} {v : Value} {l : List UInt8} (h : OB w B v l) : ∃ A cap, v = .slice A l.length cap ∧ RdS w A cap l := by
  rcases h.2 with ⟨rfl, e⟩ | ⟨g, cap, cur, rfl, _, hc, hn, _, _, ht⟩
  · obtain rfl := List.length_eq_zero_iff.1 e
    exact ⟨none, 0, rfl, RdS.nil w⟩
  · refine ⟨some ⟨g, 0, none⟩, cap, rfl, hn, (fun e => by cases e), fun ad ha i c hi => ?_⟩
    cases ha
    exact World.ownsRow.cells h (g := g) rfl i _ (by unfold Lib.byteCells; rw [List.getElem?_map, hi]; rfl)
theorem ob_row {w : World} {B : Nat} {v : Value} {l : List UInt8} (h : OB w B v l) {A : Option Addr} {cap : Nat} {y : List UInt8} (hr : RdS w A cap y) (hl : l.length + y.length ≤ 1000000) (hB : B ≤ w.heap.size) :
    ∃ v' w', (Builtin.append_ #[130, 130] 130 #[v, .slice A y.length cap]).run Tryz.prog w = .ok v' w' ∧ OB w' B v' (l ++ y) ∧ Gr B w w' := by
  obtain ⟨i, hi, hz0, hz1, hz2⟩ := info_parts infoB
  cases A with
  | none =>
    obtain rfl := hr.nn rfl
    have h0 : y = [] := List.length_eq_zero_iff.1 (by have := hr.le; omega)
    subst h0
    exact ⟨v, w, run_append_owned_none (P := Tryz.prog) (w := w) B 130 130 5 i 1 Tryz.underlying130 hi _ _ _ h, by simpa using h, Gr.refl _ _⟩
  | some ad =>
    obtain ⟨v', w', hrun, hown, hgr, _⟩ := run_append_own (P := Tryz.prog) w B 130 130 5 i (.int .u8 0) 1 1 Tryz.underlying130 hi hz0 hz1 hz2 rfl (by omega) _ _ _ h ad y.length cap (Lib.byteCells y) (by simp [Lib.byteCells_length])
      (fun j u hu => by
        unfold Lib.byteCells at hu
        rw [List.getElem?_map] at hu
        cases hj : y[j]? with
        | none => rw [hj] at hu; cases hu
        | some c => rw [hj] at hu; cases hu; exact hr.rd ad rfl j c hj)
      (fun u hu => by unfold Lib.byteCells at hu; obtain ⟨x, _, rfl⟩ := List.mem_map.1 hu; rfl) (by unfold maxLen; omega) (by omega) hB
    refine ⟨v', w', hrun, ?_, h.grown hB hgr⟩
    unfold OB
    rw [byteCells_app, List.length_append]
    exact hown
theorem ob_make {w : World} {B : Nat} (n : Nat) (hn : n ≤ 1000000) (hB : B ≤ w.heap.size) :
    ∃ v' w', (Instr.makeSlice 130 (.int .i64 0) (.int .i64 (n : Int))).run Tryz.prog w = .ok v' w' ∧ OB w' B v' [] ∧ Gr B w w' := by
  obtain ⟨i, hi, hz0, hz1, hz2⟩ := info_parts infoB
  obtain ⟨w', hrun, hown, hgr⟩ := run_make_own (P := Tryz.prog) w B 130 5 i (.int .u8 0) 1 Tryz.underlying130 hi hz0 hz1 .i64 .i64 n (by rw [hz2]; omega) (by unfold maxLen; omega) hB
  exact ⟨_, w', hrun, hown, ⟨hgr.os, hgr.tape, hgr.output, hgr.size, fun k hk => hgr.block k (by omega) (by simp)⟩, fun k o hk _ _ => by rw [hgr.block k (lt_of_block hk) (by simp)]; exact hk⟩
theorem rd_conv {w : World} {A : Option Addr} {cap : Nat} {l : List UInt8} (h : RdS w A cap l) : (convert 130 9 (.slice A l.length cap)).run Tryz.prog w = .ok (.string ⟨l.toArray⟩) w := by
  cases A with
  | none =>
    have h0 : l = [] := List.length_eq_zero_iff.1 (by have := h.nn rfl; have := h.le; omega)
    subst h0
    exact run_convert_bytes_nil (P := Tryz.prog) w 130 5 Tryz.underlying130 Tryz.underlying5 _ _ _ Tryz.underlying9
  | some ad =>
    exact run_convert_bytes_back (P := Tryz.prog) w 130 9 5 ad cap l Tryz.underlying130 Tryz.underlying5 Tryz.underlying9 (fun j hj => h.rd ad rfl j _ (List.getElem?_eq_getElem hj))
theorem elemB : Tryz.prog.elem 130 = 5 := by kernel_rfl
theorem underB : Tryz.prog.underlying 130 = some (.slice (Tryz.prog.elem 130)) := by rw [elemB]; exact Tryz.underlying130
/-- 's[k:]'. -/
theorem slice_from (A : Option Addr) (cap : Nat) (l : List UInt8) (k : Nat) (hk : k ≤ l.length) (hle : l.length ≤ cap) (hnone : A = none → cap = 0) :
    ∃ A', (∀ w, (Instr.slice 130 (.slice A l.length cap) (some (.int .i64 (k : Int))) none none).run Tryz.prog w = .ok (.slice A' (l.drop k).length (cap - k)) w) ∧
      ∀ w, RdS w A cap l → RdS w A' (cap - k) (l.drop k) := by
  refine ⟨if cap = k then A else A.map (·.add k), fun w => ?_, fun w h => ?_⟩
  · obtain ⟨i, hi, hz0, hz1, hz2⟩ := info_parts infoB
    rw [run_slice_l w 130 A l.length cap underB _ _ (by omega) (by omega)]
    have hs : (sizeOf (Tryz.prog.elem 130)).run Tryz.prog w = .ok 1 w := by
      rw [elemB]
      simp [sizeOf, typeInfo, hi, hz1, Result.andThen]
    rw [hs]
    simp [Result.andThen, sliced]
  · refine ⟨by rw [List.length_drop]; have := h.le; omega, fun e => ?_, fun ad ha i c hi => ?_⟩
    · split at e
      · omega
      · cases A with
        | none => have := h.nn rfl; omega
        | some a => cases e
    · rw [List.getElem?_drop] at hi
      have hlt := (List.getElem?_eq_some_iff.1 hi).1
      split at ha
      · have := h.le; omega
      · cases A with
        | none => cases ha
        | some a =>
          cases ha
          rw [Addr.add_add]
          exact h.rd a rfl (k + i) c hi
/-- '[]byte(s)'. -/
theorem str_row (w : World) (s : ByteArray) (hs : s.size ≤ 1000000) :
    ∃ cap w', (convert 9 130 (.string s)).run Tryz.prog w = .ok (.slice (some ⟨w.heap.size, 0, none⟩) s.size cap) w' ∧ RdS w' (some ⟨w.heap.size, 0, none⟩) cap s.data.toList ∧ Below w.heap.size w w' := by
  have hl : s.data.toList.length = s.size := by simp
  refine ⟨_, _, Lib.run_convert_string_bytes (P := Tryz.prog) w 9 130 5 s Tryz.underlying9 Tryz.underlying130 Tryz.underlying5, ⟨by rw [hl]; exact grownCap_ge _ _ _ _, (fun e => by cases e), fun ad ha i c hi => ?_⟩, ⟨by simp [Lib.bytesWorld, World.freeze, World.alloc, World.drew, -World.alloc_eq, -World.drew_eq], by simp [Lib.bytesWorld, World.freeze, World.alloc, World.drew, -World.alloc_eq, -World.drew_eq], by simp [Lib.bytesWorld, World.freeze, World.alloc, World.drew, -World.alloc_eq, -World.drew_eq], by rw [Lib.bytesWorld_size]; omega, fun k hk => Lib.bytesWorld_at_old w _ s k hk⟩⟩
  cases ha
  have hlt := (List.getElem?_eq_some_iff.1 hi).1
  rw [Addr.add_lit, Nat.zero_add, Lib.bytesWorld_cell w _ s i (by omega)]
  simp only [List.getD, hi, Option.getD_some]
theorem OB.below {w w' : World} {B : Nat} {v : Value} {l : List UInt8} (h : OB w B v l) (hb : Below w.heap.size w w') : OB w' B v l :=
  World.ownsRow.kept (row := none) h (grown_of hb) (by cases hv : v.ownBlock <;> simp)
theorem slice_to (A : Option Addr) (len cap k : Nat) (hk : k ≤ cap) (hnone : A = none → cap = 0) (w : World) :
    (Instr.slice 130 (.slice A len cap) none (some (.int .i64 (k : Int))) none).run Tryz.prog w = .ok (.slice A k cap) w := by
  obtain ⟨i, hi, hz0, hz1, hz2⟩ := info_parts infoB
  rw [run_slice_h w 130 A len cap underB _ _ (by omega) (by omega)]
  have hs : (sizeOf (Tryz.prog.elem 130)).run Tryz.prog w = .ok 1 w := by
    rw [elemB]
    simp [sizeOf, typeInfo, hi, hz1, Result.andThen]
  rw [hs]
  cases A with
  | none => simp [Result.andThen, sliced]
  | some a => simp [Result.andThen, sliced, Addr.add]
end Go.Proofs.YtedhciolnekpaaaGreatDoor
namespace Go.Proofs.YtedhciolnekpaaaGreatDoor
open Go.ChangeShapes Go.WideShapes Go.ChangeAt Go.RowKit
set_option linter.unusedVariables false

/-- A kind of element: the slice's type, the element's, how many cells it has. -/
structure ElK (ts te : TypeId) (sz : Nat) : Prop where
  und : Tryz.prog.underlying ts = some (.slice te)
  el : Tryz.prog.elem ts = te
  inf : ∃ i z bs, Tryz.prog.info? te = some i ∧ i.zero = some z ∧ i.size = sz ∧ i.bytes = bs ∧ z.cells.size = sz ∧ bs ≤ 1000
  pos : 0 < sz
theorem ElK.of {ts te : TypeId} {sz bs : Nat} {z : Value} (und : Tryz.prog.underlying ts = some (.slice te)) (el : Tryz.prog.elem ts = te)
    (inf : (Tryz.prog.info? te).map (fun i => (i.zero, i.size, i.bytes)) = some (some z, sz, bs)) (hz : z.cells.size = sz) (hb : bs ≤ 1000) (pos : 0 < sz) : ElK ts te sz := by
  refine ⟨und, el, ?_, pos⟩
  cases hi : Tryz.prog.info? te with
  | none => rw [hi] at inf; cases inf
  | some i =>
    rw [hi] at inf
    simp only [Option.map_some, Option.some.injEq, Prod.mk.injEq] at inf
    exact ⟨i, z, bs, rfl, inf.1, inf.2.1, inf.2.2, hz, hb⟩
/-- A slice, nil or not, of n elements that reads as these cells. -/
structure RdCs (w : World) (sz : Nat) (A : Option Addr) (cap n : Nat) (cs : List Value) : Prop where
  le : n ≤ cap
  nn : A = none → cap = 0
  len : cs.length = n * sz
  rd : ∀ ad, A = some ad → ∀ (j : Nat) (u : Value), cs[j]? = some u → w.cell? (ad.add j) = some u
/-- A row of one's own. -/
abbrev OwK (w : World) (base : Nat) (te : TypeId) (sz : Nat) (A : Option Addr) (cap n : Nat) (cs : List Value) : Prop := w.ownsRow base te sz (.slice A n cap) n cs
section
variable {w w' : World} {base sz n m cap c : Nat} {A B : Option Addr} {cs ds : List Value} {ts te : TypeId}
theorem RdCs.nil (w : World) (sz : Nat) : RdCs w sz none 0 0 [] := ⟨Nat.le_refl _, fun _ => rfl, by simp, fun _ h => by cases h⟩
theorem RdCs.below (h : RdCs w sz A cap n cs) (hb : Below w.heap.size w w') : RdCs w' sz A cap n cs :=
  ⟨h.le, h.nn, h.len, fun ad ha j u hu => by
    have h1 := h.rd ad ha j u hu
    rw [hb.cell (World.block_lt_of_cell? w _ h1)]; exact h1⟩
theorem RdCs.take (h : RdCs w sz A cap n cs) {k : Nat} (hk : k ≤ n) : RdCs w sz A cap k (cs.take (k * sz)) :=
  ⟨by have := h.le; omega, h.nn, by rw [List.length_take, h.len]; exact Nat.min_eq_left (Nat.mul_le_mul_right _ hk), fun ad ha j u hu => h.rd ad ha j u (by
    rw [List.getElem?_take] at hu
    split at hu
    · exact hu
    · cases hu)⟩
theorem OwK.rd (h : OwK w base te sz A cap n cs) : RdCs w sz A cap n cs := by
  rcases h.2 with ⟨hv, hn⟩ | ⟨g, cap', cur, hv, hb, hg, hnc, hcm, hcs, htake⟩
  · subst hn
    cases hv
    exact ⟨Nat.le_refl _, fun _ => rfl, by simpa using h.1, fun _ h => by cases h⟩
  · have hA : A = some ⟨g, 0, none⟩ := by cases hv; rfl
    have hc : cap = cap' := by cases hv; rfl
    subst hA hc
    refine ⟨hnc, (fun e => by cases e), h.1, fun ad ha j u hu => ?_⟩
    cases ha
    exact World.ownsRow.cells h (g := g) rfl j u hu
theorem OwK.nil (w : World) (base : Nat) (te : TypeId) (sz : Nat) : OwK w base te sz none 0 0 [] := World.ownsRow_nil w base te sz
/-- A row without elements, laid. -/
theorem OwK.laid (w : World) (te : TypeId) (sz : Nat) : OwK (w.alloc (.cells #[] te)) w.heap.size te sz (some ⟨w.heap.size, 0, none⟩) 0 0 [] :=
  ⟨by simp, .inr ⟨w.heap.size, 0, #[], rfl, Nat.le_refl _, heap_alloc_new w _, Nat.le_refl _, by unfold maxLen; omega, by simp, by simp⟩⟩
theorem OwK.lt (h : OwK w base te sz A cap n cs) : ∀ b, (Value.slice A n cap).ownBlock = some b → base ≤ b ∧ b < w.heap.size := fun b hb => World.ownsRow.lt h b hb
theorem OwK.below (h : OwK w base te sz A cap n cs) (hb : Below w.heap.size w w') : OwK w' base te sz A cap n cs :=
  World.ownsRow.kept h (grown_of (r := none) hb) (by
    cases e : (Value.slice A n cap).ownBlock with
    | none => exact .inl rfl
    | some b => exact .inr (fun e' => by cases e'))
theorem OwK.mono {base' : Nat} (h : OwK w base te sz A cap n cs) (hb : base' ≤ base) : OwK w base' te sz A cap n cs := by
  refine ⟨h.1, ?_⟩
  rcases h.2 with h | ⟨g, cap, cur, hv, hg, r⟩
  · exact .inl h
  · exact .inr ⟨g, cap, cur, hv, Nat.le_trans hb hg, r⟩
/-- Where it lies. -/
theorem OwK.at (h : OwK w base te sz A cap n cs) (hn : 0 < n) : ∃ g, A = some ⟨g, 0, none⟩ ∧ base ≤ g ∧ ∀ j u, cs[j]? = some u → w.cell? ⟨g, j, none⟩ = some u := by
  rcases h.2 with ⟨hv, h0⟩ | ⟨g, cap', cur, hv, hb, hg, hnc, hcm, hcs, htake⟩
  · omega
  · have hA : A = some ⟨g, 0, none⟩ := by cases hv; rfl
    subst hA
    refine ⟨g, rfl, hb, fun j u hu => ?_⟩
    have := World.ownsRow.cells h (g := g) rfl j u hu
    simpa [Addr.add_lit] using this
theorem appK (E : ElK ts te sz) (h : OwK w base te sz B cap n cs) (hr : RdCs w sz A c m ds) (h1 : ∀ u ∈ ds, u.oneCell' = true) (hl : n + m ≤ 1000) (hB : base ≤ w.heap.size) :
    ∃ D d w', (Builtin.append_ #[ts, ts] ts #[.slice B n cap, .slice A m c]).run Tryz.prog w = .ok (.slice D (n + m) d) w' ∧ OwK w' base te sz D d (n + m) (cs ++ ds) ∧ Below base w w' ∧ w.grownBy w' (Value.slice B n cap).ownBlock := by
  obtain ⟨i, z, bs, hi, hz, hz1, hz2, hz3, hbs⟩ := E.inf
  cases A with
  | none =>
    obtain rfl := hr.nn rfl
    have hm : m = 0 := by have := hr.le; omega
    subst hm
    have h0 : ds = [] := List.length_eq_zero_iff.1 (by have := hr.len; omega)
    subst h0
    have hrun := run_append_owned_none (P := Tryz.prog) (w := w) base ts ts te i sz E.und hi _ _ _ h
    exact ⟨B, cap, w, hrun, by simpa using h, Below.refl _ _, grown_refl _ _⟩
  | some ad =>
    obtain ⟨v', w', hrun, hown, hgr, hnil⟩ := run_append_own (P := Tryz.prog) w base ts ts te i z sz bs E.und hi hz hz1 hz2 hz3 E.pos _ _ _ h ad m c ds hr.len
      (fun j u hu => hr.rd ad rfl j u hu) h1 (by unfold maxLen; omega)
      (by have := Nat.mul_le_mul hl hbs; omega) hB
    have hb : Below base w w' := ⟨hgr.os, hgr.tape, hgr.output, hgr.size, fun k hk => hgr.block k (by omega) (fun e => by
      have := (World.ownsRow.lt h k e.symm).1
      omega)⟩
    rcases hown.2 with ⟨rfl, hn0⟩ | ⟨g', cap', cur, rfl, r⟩
    · have e1 : n = 0 := by omega
      have e2 : m = 0 := by omega
      subst e1 e2
      exact ⟨none, 0, w', hrun, hown, hb, hgr⟩
    · exact ⟨_, _, w', hrun, hown, hb, hgr⟩
/-- One element more, laid by itself. -/
theorem oneK (E : ElK ts te sz) (h : OwK w base te sz B cap n cs) {es : List Value} (he : es.length = sz) (h1 : ∀ u ∈ es, u.oneCell' = true) {ob : Obj} (ho : ob = .cells es.toArray te (0, 0)) (hl : n ≤ 999) (hB : base ≤ w.heap.size) :
    ∃ D d w', (Builtin.append_ #[ts, ts] ts #[.slice B n cap, .slice (some ⟨w.heap.size, 0, none⟩) 1 1]).run Tryz.prog (w.alloc ob) = .ok (.slice D (n + 1) d) w' ∧ OwK w' base te sz D d (n + 1) (cs ++ es) ∧ Below base w w' ∧ (w.alloc ob).grownBy w' (Value.slice B n cap).ownBlock := by
  subst ho
  have hr : RdCs (w.alloc (.cells es.toArray te (0, 0))) sz (some ⟨w.heap.size, 0, none⟩) 1 1 es := ⟨Nat.le_refl _, (fun e => by cases e), by omega, fun ad ha j u hu => by
    cases ha
    rw [show (⟨w.heap.size, 0, none⟩ : Addr).add j = ⟨w.heap.size, j, none⟩ by simp [Addr.add_lit], cell_of_block (heap_alloc_new w _)]
    simpa using hu⟩
  have h' : OwK (w.alloc (.cells es.toArray te (0, 0))) base te sz B cap n cs := World.ownsRow.alloc h _
  obtain ⟨D, d, w', r, o, b, g⟩ := appK E h' hr h1 (by omega) (by simp; omega)
  exact ⟨D, d, w', r, o, (((Below.refl base w).alloc hB _)).trans b, g⟩
theorem toK (E : ElK ts te sz) (A : Option Addr) (len cap k : Nat) (hk : k ≤ cap) (w : World) :
    (Instr.slice ts (.slice A len cap) none (some (.int .i64 (k : Int))) none).run Tryz.prog w = .ok (.slice A k cap) w := by
  obtain ⟨i, z, bs, hi, hz, hz1, hz2, hz3, hbs⟩ := E.inf
  have hs : (sizeOf (Tryz.prog.elem ts)).run Tryz.prog w = .ok sz w := by rw [E.el]; simp [sizeOf, typeInfo, hi, hz1, Result.andThen]
  rw [run_slice_h w ts A len cap (by rw [E.el]; exact E.und) _ _ (by omega) (by omega), hs]
  cases A with
  | none => simp [Result.andThen, sliced]
  | some a => simp [Result.andThen, sliced, Addr.add]
theorem fromK (E : ElK ts te sz) (A : Option Addr) (cap n k : Nat) (cs : List Value) (hk : k ≤ n) (hle : n ≤ cap) :
    ∃ A', (∀ w, (Instr.slice ts (.slice A n cap) (some (.int .i64 (k : Int))) none none).run Tryz.prog w = .ok (.slice A' (n - k) (cap - k)) w) ∧
      ∀ w, RdCs w sz A cap n cs → RdCs w sz A' (cap - k) (n - k) (cs.drop (k * sz)) := by
  refine ⟨if cap = k then A else A.map (·.add (k * sz)), fun w => ?_, fun w h => ?_⟩
  · obtain ⟨i, z, bs, hi, hz, hz1, hz2, hz3, hbs⟩ := E.inf
    have hs : (sizeOf (Tryz.prog.elem ts)).run Tryz.prog w = .ok sz w := by rw [E.el]; simp [sizeOf, typeInfo, hi, hz1, Result.andThen]
    rw [run_slice_l w ts A n cap (by rw [E.el]; exact E.und) _ _ (by omega) (by omega), hs]
    simp [Result.andThen, sliced]
  · refine ⟨by have := h.le; omega, fun e => ?_, by rw [List.length_drop, h.len, Nat.sub_mul], fun ad ha j u hu => ?_⟩
    · split at e
      · omega
      · cases A with
        | none => have := h.nn rfl; omega
        | some a => cases e
    · rw [List.getElem?_drop] at hu
      have hj := (List.getElem?_eq_some_iff.1 hu).1
      rw [h.len] at hj
      split at ha
      · rename_i e
        have hn : n = k := by omega
        subst hn
        omega
      · cases A with
        | none => cases ha
        | some a =>
          cases ha
          rw [Addr.add_add]
          exact h.rd a rfl (k * sz + j) u hu
/-- The first ones of a row, laid anew: append([]T{}, l[:a]...). -/
theorem preK (E : ElK ts te sz) {X : World} {a : Nat} (h : RdCs X sz A c n cs) (h1 : ∀ u ∈ cs, u.oneCell' = true) (ha : a ≤ n) (hl : a ≤ 900) :
    ∃ D d w2, (Builtin.append_ #[ts, ts] ts #[.slice (some ⟨X.heap.size, 0, none⟩) 0 0, .slice A a c]).run Tryz.prog (X.alloc (.cells #[] te)) = .ok (.slice D a d) w2 ∧ OwK w2 X.heap.size te sz D d a (cs.take (a * sz)) ∧ Below X.heap.size X w2 := by
  have hb : Below X.heap.size X (X.alloc (.cells #[] te)) := (Below.refl _ X).alloc (Nat.le_refl _) _
  obtain ⟨D, d, w2, r, o, b, _⟩ := appK E (OwK.laid X te sz) ((h.below hb).take ha) (fun u hu => h1 u (List.mem_of_mem_take hu)) (by omega) (by simp)
  rw [Nat.zero_add, List.nil_append] at o
  rw [Nat.zero_add] at r
  exact ⟨D, d, w2, r, o, hb.trans b⟩
/-- The walk's step over an append whose run is known (wanted or without a guard). -/
theorem wpK_app {P : Program} {w w' : World} {ops : Array Oper} {rest : List Oper} {o : Oper} {a : Act} {Q : Exit → Act → World → Prop} (hgd : Region.wanted o (yielded ops a.tmps) = true) (s x : Operand) (t : TypeId)
    (ho : o.op = .call { callee := .builtin .append, args := #[s, x], argTypes := #[t, t] }) (vs vx v' : Value) (hs : a.eval s = vs) (hx : a.eval x = vx)
    (hrun : (Builtin.append_ #[t, t] o.type #[vs, vx]).run P w = .ok v' w') (h : wpList P ops Q rest (a.put o.dst v') w') : wpList P ops Q (o :: rest) a w := by
  refine wpList_step fun K hK => ?_
  rw [if_pos hgd]
  unfold Oper.wp
  simp [execOp, ho, resolve, invoke, builtin, hs, hx, hrun, Result.andThen]
  exact hK _ _ h
end
end Go.Proofs.YtedhciolnekpaaaGreatDoor
namespace Go.Proofs.YtedhciolnekpaaaGreatDoor
open Go.ChangeShapes Go.WideShapes Go.ChangeAt Go.RowKit
set_option linter.unusedVariables false

/-- All blocks that were there stay, but those of F. -/
structure Keeps (F : Nat → Prop) (w w' : World) : Prop where
  os : w'.os = w.os
  tape : w'.tape = w.tape
  output : w'.output = w.output
  size : w.heap.size ≤ w'.heap.size
  block : ∀ k, k < w.heap.size → ¬ F k → w'.heap[k]? = w.heap[k]?
section
variable {F G : Nat → Prop} {w w1 w2 w' : World}
theorem Keeps.refl (F : Nat → Prop) (w : World) : Keeps F w w := ⟨rfl, rfl, rfl, Nat.le_refl _, fun _ _ _ => rfl⟩
theorem Keeps.trans (h : Keeps F w w1) (k : Keeps G w1 w2) (hG : ∀ g, G g → F g ∨ w.heap.size ≤ g) : Keeps F w w2 :=
  ⟨k.os.trans h.os, k.tape.trans h.tape, k.output.trans h.output, Nat.le_trans h.size k.size, fun i hi hF => by
    rw [k.block i (Nat.lt_of_lt_of_le hi h.size) (fun e => by rcases hG i e with e | e; exact hF e; omega), h.block i hi hF]⟩
theorem Keeps.of_below {B : Nat} (h : Below B w w') (hB : w.heap.size ≤ B) (F : Nat → Prop) : Keeps F w w' := ⟨h.os, h.tape, h.output, h.size, fun k hk _ => h.block k (by omega)⟩
theorem Keeps.of_grown {r : Option Nat} (h : w.grownBy w' r) (hr : ∀ g, r = some g → F g) : Keeps F w w' :=
  ⟨h.os, h.tape, h.output, h.size, fun k hk hF => h.block k hk (fun e => hF (hr k e.symm))⟩
theorem Keeps.wide (h : Keeps F w w') (hG : ∀ g, F g → g < w.heap.size → G g) : Keeps G w w' :=
  ⟨h.os, h.tape, h.output, h.size, fun k hk hF => h.block k hk (fun e => hF (hG k e hk))⟩
theorem Keeps.set (h : Keeps F w w1) (a : Addr) (v : Value) (ha : F a.block ∨ w.heap.size ≤ a.block) : Keeps F w (w1.setCell a v) :=
  ⟨h.os, h.tape, h.output, by rw [World.size_setCell]; exact h.size, fun k hk hF => by
    rw [heap_set_other (fun e => by subst e; rcases ha with e | e; exact hF e; omega)]; exact h.block k hk hF⟩
theorem Keeps.alloc (h : Keeps F w w1) (o : Obj) : Keeps F w (w1.alloc o) :=
  h.trans (Keeps.of_grown (World.grownBy_alloc w1 o none) (F := fun _ => False) (fun _ e => by cases e)) (fun _ e => e.elim)
theorem Keeps.drewN (h : Keeps F w w1) (n : Nat) : Keeps F w (w1.drewN n) := ⟨h.os, h.tape, h.output, h.size, h.block⟩
theorem Keeps.drew (h : Keeps F w w1) : Keeps F w w1.drew := ⟨h.os, h.tape, h.output, h.size, h.block⟩
theorem Keeps.below {B : Nat} (h : Keeps F w w') (hF : ∀ g, F g → B ≤ g) (hB : B ≤ w.heap.size) : Below B w w' :=
  ⟨h.os, h.tape, h.output, h.size, fun k hk => h.block k (by omega) (fun e => by have := hF k e; omega)⟩
theorem Keeps.cell (h : Keeps F w w') {p : Addr} {v : Value} (hc : w.cell? p = some v) (hp : ¬ F p.block) : w'.cell? p = some v := by
  rw [World.cell?_of_block (w := w) (h.block _ (World.block_lt_of_cell? w _ hc) hp)]; exact hc
theorem owns_keeps {base : Nat} {e : TypeId} {sz : Nat} {v : Value} {n : Nat} {l : List Value} (h : w.ownsRow base e sz v n l) (k : Keeps F w w') (hF : ∀ g, v.ownBlock = some g → ¬ F g) : w'.ownsRow base e sz v n l := by
  refine ⟨h.1, ?_⟩
  rcases h.2 with h | ⟨g, cap, cur, rfl, hb, hg, r⟩
  · exact .inl h
  · exact .inr ⟨g, cap, cur, rfl, hb, by rw [k.block g (lt_of_block hg) (hF g rfl)]; exact hg, r⟩
end
/-- What becomes of the world, and of a thing's own blocks. -/
structure Mv8 (w : World) (F : Nat → Prop) (w' : World) (F' : Nat → Prop) : Prop where
  keeps : Keeps F w w'
  own : ∀ g, F' g → F g ∨ w.heap.size ≤ g
theorem Mv8.trans {w w1 w2 : World} {F F1 F2 : Nat → Prop} (h : Mv8 w F w1 F1) (k : Mv8 w1 F1 w2 F2) : Mv8 w F w2 F2 :=
  ⟨h.keeps.trans k.keeps h.own, fun g hg => by
    rcases k.own g hg with e | e
    · exact h.own g e
    · have := h.keeps.size; exact .inr (by omega)⟩
theorem Mv8.still {w w1 : World} {F : Nat → Prop} (h : Below w.heap.size w w1) : Mv8 w F w1 F := ⟨Keeps.of_below h (Nat.le_refl _) F, fun _ h => .inl h⟩
theorem keeps_out {F : Nat → Prop} {w w' : World} (k : Keeps F w w') {g : Nat} {o : Obj} (h : w.heap[g]? = some o) (hF : ¬ F g) : w'.heap[g]? = some o := by rw [k.block g (lt_of_block h) hF]; exact h
theorem drew_drew (w : World) (q r : Nat) : (w.drewN q).drewN r = w.drewN (q + r) := by simp [World.drewN, Nat.add_assoc]
theorem below_drewN (w : World) (n : Nat) : Below w.heap.size w (w.drewN n) := ⟨rfl, rfl, rfl, Nat.le_refl _, fun _ _ => rfl⟩
theorem below_drew (w : World) : Below w.heap.size w w.drew := ⟨rfl, rfl, rfl, Nat.le_refl _, fun _ _ => rfl⟩
end Go.Proofs.YtedhciolnekpaaaGreatDoor
namespace Go.Proofs.YtedhciolnekpaaaGreatDoor
open Go.ChangeShapes Go.WideShapes Go.ChangeAt Go.RowKit
set_option linter.unusedVariables false

theorem elZ : ElK 48 2 1 := ElK.of (bs := 8) (z := .int .i64 0) Tryz.underlying48 (by kernel_rfl) (by kernel_rfl) rfl (by omega) (by omega)
theorem elP : ElK 25 67 4 := ElK.of (bs := 40) (z := .agg #[.int .i64 0, .string ⟨#[]⟩, .int .i64 0, .int .i64 0]) Tryz.underlying25 (by kernel_rfl) (by kernel_rfl) rfl (by omega) (by omega)
/-- Whole numbers, values, as cells. -/
def zCells (l : List Int) : List Value := l.map fun x => .int .i64 x
def ptOf (p : PtW) : List Value := [.int .i64 p.start, .string p.nm.1, .int .i64 p.nm.2, .int .i64 p.val]
def ptCells (l : List PtW) : List Value := l.flatMap ptOf
theorem zCells_length (l : List Int) : (zCells l).length = l.length := by simp [zCells]
theorem zCells_one (l : List Int) : ∀ u ∈ zCells l, u.oneCell' = true := fun u hu => by
  obtain ⟨x, _, rfl⟩ := List.mem_map.1 hu; rfl
theorem zCells_at {l : List Int} {i : Nat} {x : Int} (h : l[i]? = some x) : (zCells l)[i]? = some (.int .i64 x) := by unfold zCells; rw [List.getElem?_map, h]; rfl
theorem ptCells_length : ∀ (l : List PtW), (ptCells l).length = l.length * 4
  | [] => rfl
  | p :: l => by
    have := ptCells_length l
    unfold ptCells at this ⊢
    rw [List.flatMap_cons, List.length_append, List.length_cons, this]
    show 4 + _ = _
    omega
theorem ptCells_app (x y : List PtW) : ptCells (x ++ y) = ptCells x ++ ptCells y := by simp [ptCells]
theorem ptCells_one (l : List PtW) : ∀ u ∈ ptCells l, u.oneCell' = true := fun u hu => by
  obtain ⟨p, _, hu⟩ := List.mem_flatMap.1 hu
  simp only [ptOf, List.mem_cons, List.not_mem_nil, or_false] at hu
  rcases hu with rfl | rfl | rfl | rfl <;> rfl
theorem ptCells_at : ∀ {l : List PtW} {i : Nat} {p : PtW}, l[i]? = some p → ∀ j, j < 4 → (ptCells l)[i * 4 + j]? = (ptOf p)[j]?
  | [], i, p, h, _, _ => by simp at h
  | q :: l, 0, p, h, j, hj => by
    simp at h
    subst h
    unfold ptCells
    rw [List.flatMap_cons, Nat.zero_mul, Nat.zero_add, List.getElem?_append_left (by show j < 4; omega)]
  | q :: l, i + 1, p, h, j, hj => by
    have h' : l[i]? = some p := by simpa using h
    have := ptCells_at h' j hj
    unfold ptCells at this ⊢
    rw [List.flatMap_cons, List.getElem?_append_right (by show 4 ≤ _; omega)]
    show (List.flatMap ptOf l)[(i + 1) * 4 + j - 4]? = _
    rw [show (i + 1) * 4 + j - 4 = i * 4 + j by omega]
    exact this
/-- The document's table: its limits, the next number, and where its values lie. -/
structure Tb where
  wd : Int
  wi : Int
  ro : Int
  sq : Int
structure Tr (base : Nat) (w : World) (b : Nat) (t : Tb) (A : Option Addr) (c : Nat) (l : List PtW) : Prop where
  blk : w.heap[b]? = some (.cells #[.int .i64 t.wd, .int .i64 t.wi, .int .i64 t.ro, .int .i64 t.sq, .slice A l.length c] 27 (0, 0))
  own : OwK w base 67 4 A c l.length (ptCells l)
section
variable {w w' : World} {base b : Nat} {t : Tb} {A : Option Addr} {c : Nat} {l : List PtW}
theorem Tr.c0 (h : Tr base w b t A c l) : w.cell? ⟨b, 0, none⟩ = some (.int .i64 t.wd) := cell_of_block h.blk
theorem Tr.c1 (h : Tr base w b t A c l) : w.cell? ⟨b, 1, none⟩ = some (.int .i64 t.wi) := cell_of_block h.blk
theorem Tr.c2 (h : Tr base w b t A c l) : w.cell? ⟨b, 2, none⟩ = some (.int .i64 t.ro) := cell_of_block h.blk
theorem Tr.c3 (h : Tr base w b t A c l) : w.cell? ⟨b, 3, none⟩ = some (.int .i64 t.sq) := cell_of_block h.blk
theorem Tr.c4 (h : Tr base w b t A c l) : w.cell? ⟨b, 4, none⟩ = some (.slice A l.length c) := cell_of_block h.blk
theorem Tr.fr (h : Tr base w b t A c l) (o : Nat) : w.frozen? ⟨b, o, none⟩ = false := frozen_of_block h.blk
theorem Tr.lt (h : Tr base w b t A c l) : b < w.heap.size := lt_of_block h.blk
theorem Tr.still (h : Tr base w b t A c l) (hb : Below w.heap.size w w') : Tr base w' b t A c l := ⟨by rw [hb.block b h.lt]; exact h.blk, h.own.below hb⟩
theorem Tr.drewN (h : Tr base w b t A c l) (n : Nat) : Tr base (w.drewN n) b t A c l := h.still (below_drewN w n)
/-- A value among them. -/
theorem Tr.at (h : Tr base w b t A c l) {i : Nat} {p : PtW} (hi : l[i]? = some p) : ∃ g, A = some ⟨g, 0, none⟩ ∧ base ≤ g ∧ w.cell? ⟨g, i * 4, none⟩ = some (.int .i64 p.start) ∧ w.cell? ⟨g, i * 4 + 1, none⟩ = some (.string p.nm.1) ∧ w.cell? ⟨g, i * 4 + 2, none⟩ = some (.int .i64 p.nm.2) ∧ w.cell? ⟨g, i * 4 + 3, none⟩ = some (.int .i64 p.val) := by
  have hlt := (List.getElem?_eq_some_iff.1 hi).1
  obtain ⟨g, e, hg, hc⟩ := h.own.at (by omega)
  have k := ptCells_at hi
  exact ⟨g, e, hg, hc _ _ (k 0 (by omega)), hc _ _ (k 1 (by omega)), hc _ _ (k 2 (by omega)), hc _ _ (k 3 (by omega))⟩
end
/-- Where a window would be laid among those that are open. -/
def atZ (s : Int) : List Int → Nat
  | [] => 0
  | x :: l => if x < s then atZ s l + 1 else 0
theorem atZ_le (s : Int) : ∀ (l : List Int), atZ s l ≤ l.length
  | [] => Nat.le_refl _
  | x :: l => by
    have := atZ_le s l
    unfold atZ
    split
    · rw [List.length_cons]; omega
    · simp
theorem atZ_lt {s : Int} : ∀ {l : List Int} {i : Nat} {x : Int}, i < atZ s l → l[i]? = some x → x < s
  | [], i, x, h, hx => by simp at hx
  | y :: l, i, x, h, hx => by
    unfold atZ at h
    split at h
    · rename_i c
      cases i with
      | zero =>
        simp at hx
        subst hx
        exact c
      | succ i => exact atZ_lt (l := l) (i := i) (by omega) (by simpa using hx)
    · omega
theorem atZ_at {s : Int} : ∀ {l : List Int} {x : Int}, l[atZ s l]? = some x → ¬ x < s
  | [], x, hx => by simp at hx
  | y :: l, x, hx => by
    unfold atZ at hx
    split at hx
    · exact atZ_at (l := l) (by simpa using hx)
    · rename_i c
      simp at hx
      subst hx
      exact c
theorem insW_at (s : Int) : ∀ (l : List Int), insW s l = if l[atZ s l]? = some s then l else l.take (atZ s l) ++ [s] ++ l.drop (atZ s l)
  | [] => by simp [insW, atZ]
  | x :: l => by
    have ih := insW_at s l
    unfold insW atZ
    by_cases c : x < s
    · rw [if_pos c, if_pos c, ih]
      simp only [List.getElem?_cons_succ]
      split
      · rfl
      · simp
    · rw [if_neg c, if_neg c]
      by_cases d : x = s
      · rw [if_pos d]; simp [d]
      · rw [if_neg d]; simp [d]
theorem insW_old {s : Int} {l : List Int} (h : l[atZ s l]? = some s) : insW s l = l := by rw [insW_at, if_pos h]
theorem insW_new {s : Int} {l : List Int} (h : l[atZ s l]? ≠ some s) : insW s l = l.take (atZ s l) ++ [s] ++ l.drop (atZ s l) := by rw [insW_at, if_neg h]
end Go.Proofs.YtedhciolnekpaaaGreatDoor
namespace Go.Proofs.YtedhciolnekpaaaGreatDoor
open Go.ChangeShapes Go.WideShapes Go.ChangeAt Go.RowKit
set_option linter.unusedVariables false

theorem ret_ik {k : IntKind} {a b : Int} (h : a = b) : Ending.returned (.int k a) = .returned (.int k b) := by rw [h]
def Int6 (n : Int) (w : World) (e : Ending) (w' : World) : Prop := e = .returned (.int .i64 n) ∧ w = w'
def Num6 (n : Nat) (w : World) (e : Ending) (w' : World) : Prop := e = .returned (.int .u64 (n : Nat)) ∧ w = w'

theorem fold_neg {n : Int} (h : n < 0) : ((foldN n : Nat) : Int) = (-1 - n) * 2 + 1 := by unfold foldN; rw [if_pos h]; omega
theorem fold_pos {n : Int} (h : ¬ n < 0) : ((foldN n : Nat) : Int) = n * 2 := by unfold foldN; rw [if_neg h]; omega
theorem unfold_odd {n : Nat} (h : n % 2 = 1) : unfoldN n = -1 - (n : Int) / 2 := by unfold unfoldN; rw [if_pos h]; omega
theorem unfold_even {n : Nat} (h : ¬ n % 2 = 1) : unfoldN n = (n : Int) / 2 := by unfold unfoldN; rw [if_neg h]; omega
theorem refWholeOf (n : Nat) : (if n % 2 = 1 then -1 - ((n / 2 : Nat) : Int) else ((n / 2 : Nat) : Int)) = unfoldN n := rfl
def pick3 (c : Int) : Int := (if c < 0 then -(c + 1) else c) % 3
theorem pick3_lt (c : Int) : 0 ≤ pick3 c ∧ pick3 c < 3 := by unfold pick3; omega
theorem pick_neg {c : Int} (h : c < 0) : pick3 c = -((c + 1).tmod 3) := by
  unfold pick3
  rw [if_pos h, ← Int.neg_tmod, Int.tmod_eq_emod_of_nonneg (by omega)]
theorem pick_pos {c : Int} (h : ¬ c < 0) : pick3 c = c % 3 := by unfold pick3; rw [if_neg h]
/-- A call that hands back a row of bytes of its own. -/
def Bytes (B : Nat) (l : List UInt8) (w : World) (e : Ending) (w' : World) : Prop := ∃ v', e = .returned v' ∧ OB w' B v' l ∧ Below B w w'
end Go.Proofs.YtedhciolnekpaaaGreatDoor
namespace Go.Proofs.YtedhciolnekpaaaGreatDoor
open Go.ChangeShapes Go.WideShapes Go.ChangeAt Go.RowKit
set_option linter.unusedVariables false

theorem or_fin : ∀ x : Fin 256, x.val ||| 128 = x.val % 128 + 128 := by decide +kernel
theorem or_byte (m : Nat) : bits .or .u8 ((m : Int) % 256) 128 = ((m % 128 + 128 : Nat) : Int) := by
  rw [u8_or _ _ (by omega) (by omega) (by omega) (by omega)]
  have h := or_fin ⟨m % 256, by omega⟩
  simp only at h
  rw [show ((m : Int) % 256).toNat = m % 256 by omega, show (128 : Int).toNat = 128 from rfl, h]
  omega
theorem ob_byte {w : World} {B : Nat} {v : Value} {l : List UInt8} (h : OB w B v l) (x : UInt8) (c : Int) (hc : ((x.toNat : Nat) : Int) = c) (hl : l.length ≤ 100000) (hB : B ≤ w.heap.size) :
    ∃ v' w', (Builtin.append_ #[130, 130] 130 #[v, .slice (some ⟨w.heap.size, 0, none⟩) 1 1]).run Tryz.prog (w.alloc (.cells #[.int .u8 c] 5)) = .ok v' w' ∧ OB w' B v' (l ++ [x]) ∧ Gr B w w' := by
  subst hc
  exact ob_lit h [x] (by simp; omega) hB

structure PutAt (w : World) (B : Nat) (all : List UInt8) (acc : List UInt8) (n : Nat) (v : Value) (wr : World) : Prop where
  own : OB wr B v acc
  all : acc ++ enc n = all
  below : Below B w wr
end Go.Proofs.YtedhciolnekpaaaGreatDoor
namespace Go.Proofs.YtedhciolnekpaaaGreatDoor
open Go.ChangeShapes Go.WideShapes Go.ChangeAt Go.RowKit
set_option linter.unusedVariables false

/-- A slice of numbers, nil or not, that reads as this list. -/
structure RdN (w : World) (A : Option Addr) (cap : Nat) (l : List Nat) : Prop where
  le : l.length ≤ cap
  nn : A = none → cap = 0
  rd : ∀ ad, A = some ad → ∀ (i n : Nat), l[i]? = some n → w.cell? (ad.add i) = some (.int .u64 (n : Nat))
theorem RdN.nil (w : World) : RdN w none 0 [] := ⟨Nat.le_refl _, fun _ => rfl, fun _ h => by cases h⟩
theorem RdN.below {w w' : World} {B : Nat} {A : Option Addr} {cap : Nat} {l : List Nat} (h : RdN w A cap l) (hb : Below B w w') (hB : w.heap.size ≤ B) : RdN w' A cap l :=
  ⟨h.le, h.nn, fun ad ha i c hc => by
    have h1 := h.rd ad ha i c hc
    have h2 := World.block_lt_of_cell? w _ h1
    rw [hb.cell (by omega)]; exact h1⟩
theorem RdN.alloc {w : World} {A : Option Addr} {cap : Nat} {l : List Nat} (h : RdN w A cap l) (o : Obj) : RdN (w.alloc o) A cap l :=
  h.below ((Below.refl w.heap.size w).alloc (Nat.le_refl _) o) (Nat.le_refl _)
theorem RdN.drew {w : World} {A : Option Addr} {cap : Nat} {l : List Nat} (h : RdN w A cap l) (n : Nat) : RdN (w.drewN n) A cap l := ⟨h.le, h.nn, h.rd⟩
theorem RdN.some_of {w : World} {A : Option Addr} {cap : Nat} {l : List Nat} (h : RdN w A cap l) (hl : 0 < l.length) : ∃ ad, A = some ad := by
  cases A with
  | none => have := h.nn rfl; have := h.le; omega
  | some ad => exact ⟨ad, rfl⟩

/-- A row as a value, its cells. -/
def rowOf (r : Rw) (B : Option Addr) (c : Nat) : List Value := [.string r.key, .int .i64 r.kind, .int .u64 (r.many : Nat), .int .i64 r.sum, .int .i64 r.least, .int .i64 r.most, .bool r.over, .slice B r.bks.length c]
def rowVal (r : Rw) (B : Option Addr) (c : Nat) : Value := .agg #[.string r.key, .int .i64 r.kind, .int .u64 (r.many : Nat), .int .i64 r.sum, .int .i64 r.least, .int .i64 r.most, .bool r.over, .slice B r.bks.length c]
def rowObj (r : Rw) (B : Option Addr) (c : Nat) : Obj := .cells #[.string r.key, .int .i64 r.kind, .int .u64 (r.many : Nat), .int .i64 r.sum, .int .i64 r.least, .int .i64 r.most, .bool r.over, .slice B r.bks.length c] 55
/-- A row's cells from place k of block b on, and its buckets. -/
structure RowAt (w : World) (b k : Nat) (r : Rw) (B : Option Addr) (c : Nat) : Prop where
  p0 : w.cell? ⟨b, k, none⟩ = some (.string r.key)
  p1 : w.cell? ⟨b, k + 1, none⟩ = some (.int .i64 r.kind)
  p2 : w.cell? ⟨b, k + 2, none⟩ = some (.int .u64 (r.many : Nat))
  p3 : w.cell? ⟨b, k + 3, none⟩ = some (.int .i64 r.sum)
  p4 : w.cell? ⟨b, k + 4, none⟩ = some (.int .i64 r.least)
  p5 : w.cell? ⟨b, k + 5, none⟩ = some (.int .i64 r.most)
  p6 : w.cell? ⟨b, k + 6, none⟩ = some (.bool r.over)
  p7 : w.cell? ⟨b, k + 7, none⟩ = some (.slice B r.bks.length c)
  bk : RdN w B c r.bks
theorem RowAt.below {w w' : World} {N b k : Nat} {r : Rw} {B : Option Addr} {c : Nat} (h : RowAt w b k r B c) (hb : Below N w w') (hN : w.heap.size ≤ N) : RowAt w' b k r B c := by
  have hl := World.block_lt_of_cell? w _ h.p0
  have hk : ∀ o, w'.cell? ⟨b, o, none⟩ = w.cell? ⟨b, o, none⟩ := fun o => hb.cell (p := ⟨b, o, none⟩) (Nat.lt_of_lt_of_le hl hN)
  exact ⟨by rw [hk]; exact h.p0, by rw [hk]; exact h.p1, by rw [hk]; exact h.p2, by rw [hk]; exact h.p3, by rw [hk]; exact h.p4, by rw [hk]; exact h.p5, by rw [hk]; exact h.p6, by rw [hk]; exact h.p7, h.bk.below hb hN⟩
theorem RowAt.drew {w : World} {b k : Nat} {r : Rw} {B : Option Addr} {c : Nat} (h : RowAt w b k r B c) (n : Nat) : RowAt (w.drewN n) b k r B c :=
  ⟨h.p0, h.p1, h.p2, h.p3, h.p4, h.p5, h.p6, h.p7, h.bk.drew n⟩
/-- Rows, wherever they lie. -/
def RdR (w : World) (A : Option Addr) (rows : List Rw) : Prop :=
  rows = [] ∨ ∃ b o, A = some ⟨b, o, none⟩ ∧ ∀ i r, rows[i]? = some r → ∃ B c, RowAt w b (o + i * 8) r B c
theorem RdR.nil (w : World) (A : Option Addr) : RdR w A [] := .inl rfl
theorem RdR.below {w w' : World} {N : Nat} {A : Option Addr} {rows : List Rw} (h : RdR w A rows) (hb : Below N w w') (hN : w.heap.size ≤ N) : RdR w' A rows := by
  rcases h with h | ⟨b, o, e, hc⟩
  · exact .inl h
  · exact .inr ⟨b, o, e, fun i r hi => by obtain ⟨B, c, ha⟩ := hc i r hi; exact ⟨B, c, ha.below hb hN⟩⟩
theorem RdR.alloc {w : World} {A : Option Addr} {rows : List Rw} (h : RdR w A rows) (x : Obj) : RdR (w.alloc x) A rows := h.below ((Below.refl _ _).alloc (Nat.le_refl _) _) (Nat.le_refl _)
theorem RdR.drew {w : World} {A : Option Addr} {rows : List Rw} (h : RdR w A rows) (n : Nat) : RdR (w.drewN n) A rows := by
  rcases h with h | ⟨b, o, e, hc⟩
  · exact .inl h
  · exact .inr ⟨b, o, e, fun i r hi => by obtain ⟨B, c, ha⟩ := hc i r hi; exact ⟨B, c, ha.drew n⟩⟩
theorem RdR.at {w : World} {A : Option Addr} {rows : List Rw} (h : RdR w A rows) {i : Nat} {r : Rw} (hi : rows[i]? = some r) : ∃ b o B c, A = some ⟨b, o, none⟩ ∧ RowAt w b (o + i * 8) r B c := by
  rcases h with h0 | ⟨b, o, e, hc⟩
  · rw [h0] at hi; simp at hi
  · obtain ⟨B, c, ha⟩ := hc i r hi
    exact ⟨b, o, B, c, e, ha⟩

/-- A block that holds a row. -/
structure RowB (w : World) (g : Nat) (r : Rw) (B : Option Addr) (c : Nat) : Prop where
  blk : w.heap[g]? = some (.cells #[.string r.key, .int .i64 r.kind, .int .u64 (r.many : Nat), .int .i64 r.sum, .int .i64 r.least, .int .i64 r.most, .bool r.over, .slice B r.bks.length c] 55 (0, 0))
section
variable {w w' : World} {g : Nat} {r : Rw} {B : Option Addr} {c : Nat}
theorem RowB.c0 (h : RowB w g r B c) : w.cell? ⟨g, 0, none⟩ = some (.string r.key) := cell_of_block h.blk
theorem RowB.c1 (h : RowB w g r B c) : w.cell? ⟨g, 1, none⟩ = some (.int .i64 r.kind) := cell_of_block h.blk
theorem RowB.c2 (h : RowB w g r B c) : w.cell? ⟨g, 2, none⟩ = some (.int .u64 (r.many : Nat)) := cell_of_block h.blk
theorem RowB.c3 (h : RowB w g r B c) : w.cell? ⟨g, 3, none⟩ = some (.int .i64 r.sum) := cell_of_block h.blk
theorem RowB.c4 (h : RowB w g r B c) : w.cell? ⟨g, 4, none⟩ = some (.int .i64 r.least) := cell_of_block h.blk
theorem RowB.c5 (h : RowB w g r B c) : w.cell? ⟨g, 5, none⟩ = some (.int .i64 r.most) := cell_of_block h.blk
theorem RowB.c6 (h : RowB w g r B c) : w.cell? ⟨g, 6, none⟩ = some (.bool r.over) := cell_of_block h.blk
theorem RowB.c7 (h : RowB w g r B c) : w.cell? ⟨g, 7, none⟩ = some (.slice B r.bks.length c) := cell_of_block h.blk
theorem RowB.f (h : RowB w g r B c) (o : Nat) : w.frozen? ⟨g, o, none⟩ = false := frozen_of_block h.blk
theorem RowB.lt (h : RowB w g r B c) : g < w.heap.size := lt_of_block h.blk
theorem RowB.new (w : World) (r : Rw) (B : Option Addr) (c : Nat) : RowB (w.alloc (rowObj r B c)) w.heap.size r B c := ⟨heap_alloc_new w _⟩
theorem RowB.below {N : Nat} (h : RowB w g r B c) (hb : Below N w w') (hN : w.heap.size ≤ N) : RowB w' g r B c := ⟨by rw [hb.block _ (Nat.lt_of_lt_of_le h.lt hN)]; exact h.blk⟩
theorem RowB.alloc (h : RowB w g r B c) (o : Obj) : RowB (w.alloc o) g r B c := h.below ((Below.refl _ _).alloc (Nat.le_refl _) _) (Nat.le_refl _)
theorem RowB.at (h : RowB w g r B c) (hb : RdN w B c r.bks) : RowAt w g 0 r B c := ⟨h.c0, h.c1, h.c2, h.c3, h.c4, h.c5, h.c6, h.c7, hb⟩
end
/-- A batch as a value, and a block that holds it. -/
def btVal (s t : Int) (A : Option Addr) (n c : Nat) : Value := .agg #[.int .i64 s, .int .i64 t, .slice A n c]
structure BtB (w : World) (g : Nat) (s t : Int) (A : Option Addr) (n c : Nat) : Prop where
  blk : w.heap[g]? = some (.cells #[.int .i64 s, .int .i64 t, .slice A n c] 40 (0, 0))
section
variable {w w' : World} {g : Nat} {s t : Int} {A : Option Addr} {n c : Nat}
theorem BtB.c0 (h : BtB w g s t A n c) : w.cell? ⟨g, 0, none⟩ = some (.int .i64 s) := cell_of_block h.blk
theorem BtB.c1 (h : BtB w g s t A n c) : w.cell? ⟨g, 1, none⟩ = some (.int .i64 t) := cell_of_block h.blk
theorem BtB.c2 (h : BtB w g s t A n c) : w.cell? ⟨g, 2, none⟩ = some (.slice A n c) := cell_of_block h.blk
theorem BtB.f (h : BtB w g s t A n c) (o : Nat) : w.frozen? ⟨g, o, none⟩ = false := frozen_of_block h.blk
theorem BtB.lt (h : BtB w g s t A n c) : g < w.heap.size := lt_of_block h.blk
theorem BtB.new (w : World) (s t : Int) (A : Option Addr) (n c : Nat) : BtB (w.alloc (.cells #[.int .i64 s, .int .i64 t, .slice A n c] 40)) w.heap.size s t A n c := ⟨heap_alloc_new w _⟩
theorem BtB.below {N : Nat} (h : BtB w g s t A n c) (hb : Below N w w') (hN : w.heap.size ≤ N) : BtB w' g s t A n c := ⟨by rw [hb.block _ (Nat.lt_of_lt_of_le h.lt hN)]; exact h.blk⟩
theorem BtB.alloc (h : BtB w g s t A n c) (o : Obj) : BtB (w.alloc o) g s t A n c := h.below ((Below.refl _ _).alloc (Nat.le_refl _) _) (Nat.le_refl _)
theorem BtB.drew (h : BtB w g s t A n c) (k : Nat) : BtB (w.drewN k) g s t A n c := ⟨h.blk⟩
theorem BtB.grown (h : BtB w g s t A n c) {r : Option Nat} (hg : w.grownBy w' r) (hr : r ≠ some g) : BtB w' g s t A n c := ⟨by rw [hg.block _ h.lt (fun e => hr e.symm)]; exact h.blk⟩
theorem RowB.grown {r : Rw} {B : Option Addr} {c : Nat} (h : RowB w g r B c) {q : Option Nat} (hg : w.grownBy w' q) (hr : q ≠ some g) : RowB w' g r B c := ⟨by rw [hg.block _ h.lt (fun e => hr e.symm)]; exact h.blk⟩
end

/-- Numbers in a row of one's own. -/
def natCells (l : List Nat) : List Value := l.map fun (n : Nat) => .int .u64 (n : Nat)
def OwnN (w : World) (base : Nat) (A : Option Addr) (cap : Nat) (l : List Nat) : Prop := w.ownsRow base 51 1 (.slice A l.length cap) l.length (natCells l)
theorem OwnN.nil (w : World) (base : Nat) : OwnN w base none 0 [] := World.ownsRow_nil w base _ 1
/-- What owns a row of one kind keeps it while a row of another kind, or none, grows. -/
theorem owns_kept {w w' : World} {base : Nat} {e : TypeId} {sz : Nat} {v : Value} {n : Nat} {l : List Value} (h : w.ownsRow base e sz v n l) {q : Option Nat} (g : w.grownBy w' q)
    (hq : ∀ b, q = some b → b < base ∨ (∃ c f t, w.heap[b]? = some (.cells c t f) ∧ t ≠ e)) : w'.ownsRow base e sz v n l := by
  refine World.ownsRow.kept h g ?_
  rcases h.2 with ⟨rfl, _⟩ | ⟨k, cap, cur, rfl, hk, hc, _⟩
  · exact .inl rfl
  · refine .inr fun e' => ?_
    simp only [Value.ownBlock] at e'
    rcases hq k e'.symm with h1 | ⟨c, f, t, h1, h2⟩
    · omega
    · rw [hc] at h1
      cases h1
      exact h2 rfl
theorem owns_block {w : World} {base : Nat} {e : TypeId} {sz : Nat} {v : Value} {n : Nat} {l : List Value} (h : w.ownsRow base e sz v n l) : ∀ b, v.ownBlock = some b → ∃ c f, w.heap[b]? = some (.cells c e f) := by
  intro b hb
  rcases h.2 with ⟨rfl, _⟩ | ⟨k, cap, cur, rfl, hk, hc, _⟩
  · cases hb
  · simp only [Value.ownBlock, Option.some.injEq] at hb
    subst hb
    exact ⟨_, _, hc⟩
theorem owns_mono {w : World} {base base' : Nat} {e : TypeId} {sz : Nat} {v : Value} {n : Nat} {l : List Value} (h : w.ownsRow base e sz v n l) (hb : base' ≤ base) : w.ownsRow base' e sz v n l := by
  refine ⟨h.1, ?_⟩
  rcases h.2 with hn | ⟨g, cap, cur, hv, hg, r⟩
  · exact .inl hn
  · exact .inr ⟨g, cap, cur, hv, Nat.le_trans hb hg, r⟩
theorem owns_below {w w' : World} {base : Nat} {e : TypeId} {sz : Nat} {v : Value} {n : Nat} {l : List Value} (h : w.ownsRow base e sz v n l) (hb : Below w.heap.size w w') : w'.ownsRow base e sz v n l :=
  owns_kept h (grown_of (r := none) hb) (fun _ e => by cases e)
theorem OwnN.rd {w : World} {base : Nat} {A : Option Addr} {cap : Nat} {l : List Nat} (h : OwnN w base A cap l) : RdN w A cap l := by
  rcases h.2 with ⟨hv, hn⟩ | ⟨g, cap', cur, hv, hb, hg, hnc, hcm, hcs, htake⟩
  · obtain rfl := List.eq_nil_of_length_eq_zero hn
    cases hv
    exact RdN.nil w
  · have hA : A = some ⟨g, 0, none⟩ := by cases hv; rfl
    have hc : cap = cap' := by cases hv; rfl
    subst hA hc
    refine ⟨hnc, (fun e => by cases e), fun ad ha i n hi => ?_⟩
    cases ha
    exact World.ownsRow.cells h (g := g) rfl i _ (by unfold natCells; rw [List.getElem?_map, hi]; rfl)
theorem infoN : (Tryz.prog.info? 51).map (fun i => (i.zero, i.size, i.bytes)) = some (some (.int .u64 0), 1, 8) := by kernel_rfl
theorem append_nat {w : World} {base : Nat} {A : Option Addr} {cap : Nat} {l : List Nat} (n : Nat) (h : OwnN w base A cap l) (hb : base ≤ w.heap.size) (hl : l.length ≤ 1000) :
    ∃ A' cap' w', (Builtin.append_ #[53, 53] 53 #[.slice A l.length cap, .slice (some ⟨w.heap.size, 0, none⟩) 1 1]).run Tryz.prog (w.alloc (.cells #[.int .u64 (n : Nat)] 51)) = .ok (.slice A' (l.length + 1) cap') w' ∧
      OwnN w' base A' cap' (l ++ [n]) ∧ (w.alloc (.cells #[.int .u64 (n : Nat)] 51)).grownBy w' (Value.slice A l.length cap).ownBlock := by
  cases hi : Tryz.prog.info? 51 with
  | none => have := infoN; rw [hi] at this; cases this
  | some i =>
    have hI := infoN
    rw [hi] at hI
    simp only [Option.map_some, Option.some.injEq, Prod.mk.injEq] at hI
    obtain ⟨hz, hz1, hz2⟩ := hI
    obtain ⟨v', w', hrun, hown, hgr, hnil⟩ := run_append_own (P := Tryz.prog) (w.alloc (.cells #[.int .u64 (n : Nat)] 51)) base 53 53 51 i _ 1 8 Tryz.underlying53 hi hz hz1 hz2 rfl (by omega) _ _ _ (World.ownsRow.alloc h _) ⟨w.heap.size, 0, none⟩ 1 1 [.int .u64 (n : Nat)] rfl
      (fun j u hu => by
        match j, hu with
        | 0, hu => cases hu; simp [Addr.add])
      (fun u hu => by
        simp only [List.mem_cons, List.not_mem_nil, or_false] at hu
        subst hu; rfl)
      (by unfold maxLen; omega) (by omega) (by simp; omega)
    rcases hown.2 with ⟨e, hn0⟩ | ⟨g', cap', cur, rfl, r⟩
    · omega
    · refine ⟨_, _, w', hrun, ?_, hgr⟩
      unfold OwnN
      rw [List.length_append, show natCells (l ++ [n]) = natCells l ++ [.int .u64 (n : Nat)] by simp [natCells]]
      exact hown

/-- Rows in a row of one's own, their buckets in others. -/
def rowCells (l : List (Rw × Option Addr × Nat)) : List Value := l.flatMap fun x => rowOf x.1 x.2.1 x.2.2
structure OwnL (w : World) (base : Nat) (A : Option Addr) (cap : Nat) (l : List (Rw × Option Addr × Nat)) : Prop where
  own : w.ownsRow base 55 8 (.slice A l.length cap) l.length (rowCells l)
  bks : ∀ x ∈ l, OwnN w base x.2.1 x.2.2 x.1.bks
def OwnR (w : World) (base : Nat) (A : Option Addr) (cap : Nat) (rows : List Rw) : Prop := ∃ l, l.map (·.1) = rows ∧ OwnL w base A cap l
theorem OwnR.nil (w : World) (base : Nat) : OwnR w base none 0 [] := ⟨[], rfl, World.ownsRow_nil w base _ 8, fun x h => by simp at h⟩
theorem rowCells_length (l : List (Rw × Option Addr × Nat)) : (rowCells l).length = l.length * 8 := by
  induction l with
  | nil => rfl
  | cons t r ih =>
    rw [rowCells, List.flatMap_cons, List.length_append, List.length_cons]
    have h8 : (rowOf t.1 t.2.1 t.2.2).length = 8 := rfl
    unfold rowCells at ih
    omega
theorem rowCells_at (l : List (Rw × Option Addr × Nat)) : ∀ i x, l[i]? = some x → ∀ j, j < 8 → (rowCells l)[i * 8 + j]? = (rowOf x.1 x.2.1 x.2.2)[j]? := by
  induction l with
  | nil => intro i x h; simp at h
  | cons t r ih =>
    intro i x h j hj
    have h8 : (rowOf t.1 t.2.1 t.2.2).length = 8 := rfl
    cases i with
    | zero =>
      simp at h
      subst h
      rw [rowCells, List.flatMap_cons, Nat.zero_mul, Nat.zero_add, List.getElem?_append_left (by omega)]
    | succ i =>
      have h' : r[i]? = some x := by simpa using h
      have := ih i x h' j hj
      rw [rowCells, List.flatMap_cons, List.getElem?_append_right (by omega), h8, show (i + 1) * 8 + j - 8 = i * 8 + j by omega]
      exact this
theorem OwnR.rd {w : World} {base : Nat} {A : Option Addr} {cap : Nat} {rows : List Rw} (h : OwnR w base A cap rows) : RdR w A rows := by
  obtain ⟨l, rfl, h, hN⟩ := h
  rcases h.2 with ⟨hv, hn⟩ | ⟨g, cap', cur, hv, hb, hg, hnc, hcm, hcs, htake⟩
  · exact .inl (by rw [List.eq_nil_of_length_eq_zero hn]; rfl)
  · have hA : A = some ⟨g, 0, none⟩ := by cases hv; rfl
    refine .inr ⟨g, 0, hA, fun i r hi => ?_⟩
    rw [List.getElem?_map] at hi
    cases hx : l[i]? with
    | none => rw [hx] at hi; cases hi
    | some x =>
      rw [hx] at hi
      obtain rfl := Option.some.inj hi
      have hi' : i < l.length := (List.getElem?_eq_some_iff.1 hx).1
      have hlen := rowCells_length l
      have hc : ∀ j, j < 8 → w.cell? ⟨g, 0 + i * 8 + j, none⟩ = (rowOf x.1 x.2.1 x.2.2)[j]? := fun j hj => by
        rw [cell_of_block hg, Nat.zero_add, ← rowCells_at l i x hx j hj, ← htake, List.getElem?_take, if_pos (by omega)]
        simp
      exact ⟨x.2.1, x.2.2, hc 0 (by omega), hc 1 (by omega), hc 2 (by omega), hc 3 (by omega), hc 4 (by omega), hc 5 (by omega), hc 6 (by omega), hc 7 (by omega), (hN x (List.mem_of_getElem? hx)).rd⟩
theorem infoR : (Tryz.prog.info? 55).map (fun i => (i.zero, i.size, i.bytes)) = some (some (.agg #[.string ⟨#[]⟩, .int .i64 0, .int .u64 0, .int .i64 0, .int .i64 0, .int .i64 0, .bool false, .slice none 0 0]), 8, 88) := by kernel_rfl
/-- What becomes of a world while rows of one's own grow: blocks of numbers stay, too. -/
theorem OwnR.kept {w w' : World} {base : Nat} {A : Option Addr} {cap : Nat} {rows : List Rw} (h : OwnR w base A cap rows) {q : Option Nat} (g : w.grownBy w' q)
    (hq : ∀ b, q = some b → b < base ∨ (∃ c f t, w.heap[b]? = some (.cells c t f) ∧ t ≠ 55 ∧ t ≠ 51)) : OwnR w' base A cap rows := by
  obtain ⟨l, e, h1, h2⟩ := h
  refine ⟨l, e, owns_kept h1 g (fun b hb => (hq b hb).imp id (fun ⟨c, f, t, a, b, _⟩ => ⟨c, f, t, a, b⟩)), fun x hx => owns_kept (h2 x hx) g (fun b hb => (hq b hb).imp id (fun ⟨c, f, t, a, _, b⟩ => ⟨c, f, t, a, b⟩))⟩
theorem OwnR.below {w w' : World} {base : Nat} {A : Option Addr} {cap : Nat} {rows : List Rw} (h : OwnR w base A cap rows) (hb : Below w.heap.size w w') : OwnR w' base A cap rows :=
  h.kept (grown_of (r := none) hb) (fun _ e => by cases e)
theorem OwnR.mono {w : World} {base base' : Nat} {A : Option Addr} {cap : Nat} {rows : List Rw} (h : OwnR w base A cap rows) (hb : base' ≤ base) : OwnR w base' A cap rows := by
  obtain ⟨l, e, h1, h2⟩ := h
  exact ⟨l, e, owns_mono h1 hb, fun x hx => owns_mono (h2 x hx) hb⟩
theorem OwnR.far {w : World} {base : Nat} {A : Option Addr} {cap : Nat} {rows : List Rw} (h : OwnR w base A cap rows) : ∀ b, (Value.slice A rows.length cap).ownBlock = some b → base ≤ b ∧ b < w.heap.size ∧ ∃ c f, w.heap[b]? = some (.cells c 55 f) := by
  obtain ⟨l, rfl, h1, _⟩ := h
  rw [List.length_map]
  exact fun b hb => ⟨(World.ownsRow.lt h1 b hb).1, (World.ownsRow.lt h1 b hb).2, owns_block h1 b hb⟩
set_option maxHeartbeats 1000000 in
theorem append_row {w : World} {base : Nat} {A : Option Addr} {cap : Nat} {rows : List Rw} (r : Rw) (B : Option Addr) (c : Nat) (h : OwnR w base A cap rows) (hN : OwnN w base B c r.bks) (hb : base ≤ w.heap.size) (hl : rows.length ≤ 1000) :
    ∃ A' cap' w', (Builtin.append_ #[38, 38] 38 #[.slice A rows.length cap, .slice (some ⟨w.heap.size, 0, none⟩) 1 1]).run Tryz.prog (w.alloc (rowObj r B c)) = .ok (.slice A' (rows.length + 1) cap') w' ∧
      OwnR w' base A' cap' (rows ++ [r]) ∧ (w.alloc (rowObj r B c)).grownBy w' (Value.slice A rows.length cap).ownBlock := by
  have hfar := h.far
  obtain ⟨l, rfl, h1, h2⟩ := h
  rw [List.length_map] at hl hfar ⊢
  cases hi : Tryz.prog.info? 55 with
  | none => have := infoR; rw [hi] at this; cases this
  | some i =>
    have hI := infoR
    rw [hi] at hI
    simp only [Option.map_some, Option.some.injEq, Prod.mk.injEq] at hI
    obtain ⟨hz, hz1, hz2⟩ := hI
    obtain ⟨v', w', hrun, hown, hgr, hnil⟩ := run_append_own (P := Tryz.prog) (w.alloc (rowObj r B c)) base 38 38 55 i _ 8 88 Tryz.underlying38 hi hz hz1 hz2 rfl (by omega) _ _ _ (World.ownsRow.alloc h1 _) ⟨w.heap.size, 0, none⟩ 1 1 (rowOf r B c) rfl
      (fun j u hu => by
        rw [show (⟨w.heap.size, 0, none⟩ : Addr).add j = ⟨w.heap.size, j, none⟩ by simp [Addr.add_lit], cell_of_block (heap_alloc_new w (rowObj r B c))]
        simpa [rowOf] using hu)
      (fun u hu => by
        simp only [rowOf, List.mem_cons, List.not_mem_nil, or_false] at hu
        rcases hu with rfl | rfl | rfl | rfl | rfl | rfl | rfl | rfl <;> rfl)
      (by unfold maxLen; omega) (by omega) (by simp; omega)
    have hk : ∀ b, (Value.slice A l.length cap).ownBlock = some b → b < base ∨ ∃ c' f t, (w.alloc (rowObj r B c)).heap[b]? = some (.cells c' t f) ∧ t ≠ 51 := fun b hb0 => by
      obtain ⟨_, h4, c', f, h5⟩ := hfar b hb0
      exact .inr ⟨c', f, 55, by rw [(World.grownBy_alloc w _ none).block b h4 (by simp)]; exact h5, by decide⟩
    rcases hown.2 with ⟨e, hn0⟩ | ⟨g', cap', cur, rfl, rr⟩
    · omega
    · refine ⟨_, _, w', hrun, ⟨l ++ [(r, B, c)], by simp, ?_, ?_⟩, hgr⟩
      · rw [List.length_append, show rowCells (l ++ [(r, B, c)]) = rowCells l ++ rowOf r B c by simp [rowCells]]
        exact hown
      · intro x hx
        rcases List.mem_append.1 hx with hx | hx
        · exact owns_kept (World.ownsRow.alloc (h2 x hx) _) hgr hk
        · obtain rfl : x = (r, B, c) := by simpa using hx
          exact owns_kept (World.ownsRow.alloc hN _) hgr hk
end Go.Proofs.YtedhciolnekpaaaGreatDoor
namespace Go.Proofs.YtedhciolnekpaaaGreatDoor
open Go.ChangeShapes Go.WideShapes Go.ChangeAt Go.RowKit
set_option linter.unusedVariables false

theorem blw_new (w : World) (o : Obj) : Below w.heap.size w (w.alloc o) := (Below.refl _ _).alloc (Nat.le_refl _) _
theorem blw_drew (w : World) (n : Nat) : Below w.heap.size w (w.drewN n) := ⟨rfl, rfl, rfl, Nat.le_refl _, fun _ _ => rfl⟩
/-- A row in block g, its buckets its own, from N on. -/
structure Hr (N : Nat) (w : World) (g : Nat) (r : Rw) (B : Option Addr) (c : Nat) : Prop where
  row : RowB w g r B c
  own : OwnN w N B c r.bks
  base : N ≤ g
section
variable {N M : Nat} {w w' : World} {g : Nat} {r : Rw} {B : Option Addr} {c : Nat}
theorem Hr.off (h : Hr N w g r B c) : (Value.slice B r.bks.length c).ownBlock ≠ some g := fun e => by
  obtain ⟨d, f, hd⟩ := owns_block h.own g e
  rw [h.row.blk] at hd
  cases hd
theorem Hr.below (h : Hr N w g r B c) (hb : Below w.heap.size w w') : Hr N w' g r B c := ⟨h.row.below hb (Nat.le_refl _), owns_below h.own hb, h.base⟩
theorem Hr.drew (h : Hr N w g r B c) (n : Nat) : Hr N (w.drewN n) g r B c := ⟨⟨h.row.blk⟩, h.own, h.base⟩
theorem Hr.mono (h : Hr N w g r B c) (hM : M ≤ N) : Hr M w g r B c := ⟨h.row, owns_mono h.own hM, Nat.le_trans hM h.base⟩
/-- A cell of the row's own block is written. -/
theorem Hr.put (h : Hr N w g r B c) {o : Nat} {v : Value} {r' : Rw} (hb : RowB (w.setCell ⟨g, o, none⟩ v) g r' B c) (hk : r'.bks = r.bks) : Hr N (w.setCell ⟨g, o, none⟩ v) g r' B c := by
  refine ⟨hb, ?_, h.base⟩
  rw [hk]
  exact World.ownsRow.kept h.own (grown_set (grown_refl _ _) _ _ (.inl rfl)) (.inr h.off)
theorem Hr.set2 (h : Hr N w g r B c) (n : Nat) : Hr N (w.setCell ⟨g, 2, none⟩ (.int .u64 (n : Nat))) g { r with many := n } B c := h.put ⟨heap_set_same h.row.blk⟩ rfl
theorem Hr.set3 (h : Hr N w g r B c) (v : Int) : Hr N (w.setCell ⟨g, 3, none⟩ (.int .i64 v)) g { r with sum := v } B c := h.put ⟨heap_set_same h.row.blk⟩ rfl
theorem Hr.set4 (h : Hr N w g r B c) (v : Int) : Hr N (w.setCell ⟨g, 4, none⟩ (.int .i64 v)) g { r with least := v } B c := h.put ⟨heap_set_same h.row.blk⟩ rfl
theorem Hr.set5 (h : Hr N w g r B c) (v : Int) : Hr N (w.setCell ⟨g, 5, none⟩ (.int .i64 v)) g { r with most := v } B c := h.put ⟨heap_set_same h.row.blk⟩ rfl
theorem Hr.set6 (h : Hr N w g r B c) (b : Bool) : Hr N (w.setCell ⟨g, 6, none⟩ (.bool b)) g { r with over := b } B c := h.put ⟨heap_set_same h.row.blk⟩ rfl
/-- The row's buckets have grown, elsewhere or where they were; and are put in their place. -/
theorem Hr.turn (h : Hr N w g r B c) {B' : Option Addr} {c' : Nat} {l : List Nat} (hg : w.grownBy w' (Value.slice B r.bks.length c).ownBlock) (ho : OwnN w' N B' c' l) :
    Hr N (w'.setCell ⟨g, 7, none⟩ (.slice B' l.length c')) g { r with bks := l } B' c' := by
  have hr : RowB w' g r B c := h.row.grown hg h.off
  refine ⟨⟨heap_set_same hr.blk⟩, ?_, h.base⟩
  refine World.ownsRow.kept ho (grown_set (grown_refl _ _) _ _ (.inl rfl)) (.inr fun e => ?_)
  obtain ⟨d, f, hd⟩ := owns_block ho g e
  rw [hr.blk] at hd
  cases hd
/-- A bucket is written. -/
theorem Hr.count {b : Nat} (h : Hr N w g r (some ⟨b, 0, none⟩) c) (i n : Nat) : Hr N (w.setCell ⟨b, i, none⟩ (.int .u64 (n : Nat))) g { r with bks := r.bks.set i n } (some ⟨b, 0, none⟩) c := by
  have hne : g ≠ b := fun e => h.off (by rw [e]; rfl)
  refine ⟨⟨?_⟩, ?_, h.base⟩
  · rw [heap_set_other (a := ⟨b, i, none⟩) hne]
    have := h.row.blk
    simpa using this
  · have h1 := (World.ownsRow.stored h.own i (.int .u64 (n : Nat))).1
    unfold OwnN natCells
    rw [List.length_set, List.map_set]
    exact h1
theorem Hr.rd (h : Hr N w g r B c) : RdN w B c r.bks := h.own.rd
/-- Where buckets lie. -/
theorem Hr.form (h : Hr N w g r B c) (hl : 0 < r.bks.length) : ∃ b, B = some ⟨b, 0, none⟩ ∧ N ≤ b ∧ b < w.heap.size := by
  rcases h.own.2 with ⟨e, e0⟩ | ⟨b, cap, cur, hv, hb, hg, _⟩
  · omega
  · cases hv
    exact ⟨b, rfl, hb, lt_of_block hg⟩
end
/-- What a call makes of it. -/
def Mh (N : Nat) (w : World) (g : Nat) (r' : Rw) (w' : World) : Prop := ∃ B c, Hr N w' g r' B c ∧ Below N w w'
theorem Hr.new {N : Nat} {w : World} {r : Rw} {B : Option Addr} {c : Nat} (ho : OwnN w N B c r.bks) (hN : N ≤ w.heap.size) : Hr N (w.alloc (rowObj r B c)) w.heap.size r B c :=
  ⟨RowB.new w r B c, World.ownsRow.alloc ho _, hN⟩
/-- A row is stored in a block. -/
def putRow (w : World) (k : Nat) (r : Rw) (B : Option Addr) (c : Nat) : World :=
  (((((((w.setCell ⟨k, 0, none⟩ (.string r.key)).setCell ⟨k, 1, none⟩ (.int .i64 r.kind)).setCell ⟨k, 2, none⟩ (.int .u64 (r.many : Nat))).setCell ⟨k, 3, none⟩ (.int .i64 r.sum)).setCell ⟨k, 4, none⟩ (.int .i64 r.least)).setCell ⟨k, 5, none⟩ (.int .i64 r.most)).setCell ⟨k, 6, none⟩ (.bool r.over)).setCell ⟨k, 7, none⟩ (.slice B r.bks.length c)
section
variable {w : World} {k : Nat} {a0 a1 a2 a3 a4 a5 a6 a7 : Value} {t : TypeId} {f : Nat × Nat}
theorem put8_0 (h : w.heap[k]? = some (.cells #[a0, a1, a2, a3, a4, a5, a6, a7] t f)) (x : Value) : (w.setCell ⟨k, 0, none⟩ x).heap[k]? = some (.cells #[x, a1, a2, a3, a4, a5, a6, a7] t f) := heap_set_same h
theorem put8_1 (h : w.heap[k]? = some (.cells #[a0, a1, a2, a3, a4, a5, a6, a7] t f)) (x : Value) : (w.setCell ⟨k, 1, none⟩ x).heap[k]? = some (.cells #[a0, x, a2, a3, a4, a5, a6, a7] t f) := heap_set_same h
theorem put8_2 (h : w.heap[k]? = some (.cells #[a0, a1, a2, a3, a4, a5, a6, a7] t f)) (x : Value) : (w.setCell ⟨k, 2, none⟩ x).heap[k]? = some (.cells #[a0, a1, x, a3, a4, a5, a6, a7] t f) := heap_set_same h
theorem put8_3 (h : w.heap[k]? = some (.cells #[a0, a1, a2, a3, a4, a5, a6, a7] t f)) (x : Value) : (w.setCell ⟨k, 3, none⟩ x).heap[k]? = some (.cells #[a0, a1, a2, x, a4, a5, a6, a7] t f) := heap_set_same h
theorem put8_4 (h : w.heap[k]? = some (.cells #[a0, a1, a2, a3, a4, a5, a6, a7] t f)) (x : Value) : (w.setCell ⟨k, 4, none⟩ x).heap[k]? = some (.cells #[a0, a1, a2, a3, x, a5, a6, a7] t f) := heap_set_same h
theorem put8_5 (h : w.heap[k]? = some (.cells #[a0, a1, a2, a3, a4, a5, a6, a7] t f)) (x : Value) : (w.setCell ⟨k, 5, none⟩ x).heap[k]? = some (.cells #[a0, a1, a2, a3, a4, x, a6, a7] t f) := heap_set_same h
theorem put8_6 (h : w.heap[k]? = some (.cells #[a0, a1, a2, a3, a4, a5, a6, a7] t f)) (x : Value) : (w.setCell ⟨k, 6, none⟩ x).heap[k]? = some (.cells #[a0, a1, a2, a3, a4, a5, x, a7] t f) := heap_set_same h
theorem put8_7 (h : w.heap[k]? = some (.cells #[a0, a1, a2, a3, a4, a5, a6, a7] t f)) (x : Value) : (w.setCell ⟨k, 7, none⟩ x).heap[k]? = some (.cells #[a0, a1, a2, a3, a4, a5, a6, x] t f) := heap_set_same h
end
theorem putRow_row {w : World} {k : Nat} {r0 : Rw} {B0 : Option Addr} {c0 : Nat} (h : RowB w k r0 B0 c0) (r : Rw) (B : Option Addr) (c : Nat) : RowB (putRow w k r B c) k r B c :=
  ⟨put8_7 (put8_6 (put8_5 (put8_4 (put8_3 (put8_2 (put8_1 (put8_0 h.blk _) _) _) _) _) _) _) _⟩
theorem gset {w w1 : World} {k o : Nat} {v : Value} (g : w.grownBy w1 (some k)) : w.grownBy (w1.setCell ⟨k, o, none⟩ v) (some k) := grown_set g ⟨k, o, none⟩ v (.inl rfl)
theorem putRow_grown (w : World) (k : Nat) (r : Rw) (B : Option Addr) (c : Nat) : w.grownBy (putRow w k r B c) (some k) := by
  unfold putRow
  exact (gset (gset (gset (gset (gset (gset (gset (gset (grown_refl w _)))))))))
theorem bset {N : Nat} {w w1 : World} {k o : Nat} {v : Value} (h : Below N w w1) (hk : N ≤ k) : Below N w (w1.setCell ⟨k, o, none⟩ v) := h.setCell (p := ⟨k, o, none⟩) hk v
theorem putRow_below {N : Nat} {w w1 : World} {k : Nat} (h : Below N w w1) (hk : N ≤ k) (r : Rw) (B : Option Addr) (c : Nat) : Below N w (putRow w1 k r B c) := by
  unfold putRow
  exact (bset (bset (bset (bset (bset (bset (bset (bset h hk) hk) hk) hk) hk) hk) hk) hk)
theorem own_put {N : Nat} {w : World} {k : Nat} {B' : Option Addr} {c' : Nat} {l : List Nat} (h : OwnN w N B' c' l) (hk : k < N) (r : Rw) (B : Option Addr) (c : Nat) : OwnN (putRow w k r B c) N B' c' l :=
  World.ownsRow.kept h (putRow_grown w k r B c) (by
    cases e : (Value.slice B' l.length c').ownBlock with
    | none => exact .inl rfl
    | some b => exact .inr (fun e' => by have := (World.ownsRow.lt h b e).1; cases e'; omega))
end Go.Proofs.YtedhciolnekpaaaGreatDoor
