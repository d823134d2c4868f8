/-
  Layer 7 (batch), of no program: a batch's bytes, how they are read, and that both fit each other.
-/
import Derived.Test.YtmlpoeneopppaaaWirePure
namespace Go.Proofs.Ytmlpoeneopppaaa
set_option linter.unusedVariables false

structure Rw where
  key : ByteArray
  kind : Int
  many : Nat
  sum : Int
  least : Int
  most : Int
  over : Bool
  bks : List Nat
structure Bt where
  seq : Int
  start : Int
  rows : List Rw

def overN (b : Bool) : Nat := if b then 1 else 0
def bksL (l : List Nat) : List UInt8 := l.flatMap enc
def rowHead (r : Rw) : List UInt8 := encT r.key ++ enc r.kind.toNat ++ enc r.many ++ enc (foldN r.sum) ++ enc (foldN r.least) ++ enc (foldN r.most) ++ enc (overN r.over) ++ enc r.bks.length
def rowL (r : Rw) : List UInt8 := rowHead r ++ bksL r.bks
def rowsL (l : List Rw) : List UInt8 := l.flatMap rowL
def putHead (b : Bt) : List UInt8 := enc b.seq.toNat ++ enc b.start.toNat ++ enc b.rows.length
def putL (b : Bt) : List UInt8 := putHead b ++ rowsL b.rows

/-- What a machine holds. -/
structure FitR (r : Rw) : Prop where
  many : r.many < 18446744073709551616
  sum0 : -9223372036854775808 ≤ r.sum
  sum1 : r.sum ≤ 9223372036854775807
  least0 : -9223372036854775808 ≤ r.least
  least1 : r.least ≤ 9223372036854775807
  most0 : -9223372036854775808 ≤ r.most
  most1 : r.most ≤ 9223372036854775807
  bks : ∀ n ∈ r.bks, n < 18446744073709551616
/-- What a reader of a batch takes. -/
structure InR (r : Rw) : Prop where
  fit : FitR r
  key : r.key.size ≤ 300
  kind0 : 0 ≤ r.kind
  kind1 : r.kind ≤ 3
  len : r.bks.length ≤ 65
structure InB (b : Bt) : Prop where
  seq0 : 0 ≤ b.seq
  seq1 : b.seq ≤ 2147483647
  start0 : 0 ≤ b.start
  start1 : b.start ≤ 1099511627776
  len : b.rows.length ≤ 200
  rows : ∀ r ∈ b.rows, InR r

/-- A batch's reader: the bytes' reader, and whether something was beyond its limit. -/
structure Gs where
  r : Rs
  bey : Bool
def gNum (l : List UInt8) (g : Gs) : Nat × Gs := ((rsNum l g.r).1, ⟨(rsNum l g.r).2, g.bey⟩)
def gUp (l : List UInt8) (m : Nat) (g : Gs) : Nat × Gs := if m < (rsNum l g.r).1 then (0, ⟨(rsNum l g.r).2, true⟩) else ((rsNum l g.r).1, ⟨(rsNum l g.r).2, g.bey⟩)
def gText (l : List UInt8) (g : Gs) : List UInt8 × Gs := ((rsText l 300 g.r).1, ⟨(rsText l 300 g.r).2, g.bey⟩)
def gBks (l : List UInt8) : Nat → Gs → List Nat → List Nat × Gs
  | 0, g, acc => (acc, g)
  | k + 1, g, acc => gBks l k (gNum l g).2 (acc ++ [(gNum l g).1])
/-- A row ahead of its buckets, and how many there are. -/
def gHead (l : List UInt8) (g : Gs) : Rw × Gs :=
  let a := gText l g
  let b := gUp l 3 a.2
  let c := gNum l b.2
  let d := gNum l c.2
  let e := gNum l d.2
  let f := gNum l e.2
  let o := gUp l 1 f.2
  (⟨⟨a.1.toArray⟩, (b.1 : Nat), c.1, unfoldN d.1, unfoldN e.1, unfoldN f.1, o.1 == 1, []⟩, o.2)
def gRow (l : List UInt8) (g : Gs) : Rw × Gs :=
  let h := gHead l g
  let m := gUp l 65 h.2
  let t := gBks l m.1 m.2 []
  ({ h.1 with bks := t.1 }, t.2)
def gRows (l : List UInt8) : Nat → Gs → List Rw → List Rw × Gs
  | 0, g, acc => (acc, g)
  | k + 1, g, acc => gRows l k (gRow l g).2 (acc ++ [(gRow l g).1])
def g0 : Gs := ⟨⟨0, false⟩, false⟩
def gBatch (l : List UInt8) : Bt × Gs :=
  let a := gUp l 2147483647 g0
  let b := gUp l 1099511627776 a.2
  let c := gUp l 200 b.2
  let t := gRows l c.1 c.2 []
  (⟨(a.1 : Nat), (b.1 : Nat), t.1⟩, t.2)

/-- What was written is read. -/
def Stand (l : List UInt8) (g : Gs) (rest : List UInt8) : Prop := g.bey = false ∧ g.r.bad = false ∧ g.r.at_ ≤ l.length ∧ l.drop g.r.at_ = rest
theorem stand_step {l x rest : List UInt8} {k : Nat} (hk : k ≤ l.length) (h : l.drop k = x ++ rest) : k + x.length ≤ l.length ∧ l.drop (k + x.length) = rest := by
  have hl := congrArg List.length h
  rw [List.length_drop, List.length_append] at hl
  refine ⟨by omega, ?_⟩
  rw [← List.drop_drop, h]
  simp
theorem dec_stand {l rest : List UInt8} {k n : Nat} (hn : n < 18446744073709551616) (h : l.drop k = enc n ++ rest) : decF 0 0 (l.drop k) = some (n, (enc n).length) := by
  rw [h, dec_enc n 0 0 rest (by omega) (by simpa using hn) (by omega)]
  simp
theorem stand_num {l rest : List UInt8} {g : Gs} {n : Nat} (hn : n < 18446744073709551616) (h : Stand l g (enc n ++ rest)) : ∃ g', gNum l g = (n, g') ∧ Stand l g' rest := by
  obtain ⟨⟨k, bad⟩, bey⟩ := g
  obtain ⟨h1, h2, h3, h4⟩ := h
  simp only at h1 h2 h3 h4
  subst h1 h2
  obtain ⟨s1, s2⟩ := stand_step h3 h4
  refine ⟨⟨⟨k + (enc n).length, false⟩, false⟩, ?_, rfl, rfl, s1, s2⟩
  unfold gNum rsNum
  simp only [dec_stand hn h4]
  rfl
theorem stand_up {l rest : List UInt8} {g : Gs} {n m : Nat} (hm : n ≤ m) (hn : n < 18446744073709551616) (h : Stand l g (enc n ++ rest)) : ∃ g', gUp l m g = (n, g') ∧ Stand l g' rest := by
  obtain ⟨g', e, hs⟩ := stand_num hn h
  refine ⟨g', ?_, hs⟩
  unfold gNum at e
  simp only [Prod.mk.injEq] at e
  unfold gUp
  rw [e.1, if_neg (by omega), e.2]
theorem stand_text {l rest : List UInt8} {g : Gs} {s : ByteArray} (hs : s.size ≤ 300) (h : Stand l g (encT s ++ rest)) : ∃ g', gText l g = (s.data.toList, g') ∧ Stand l g' rest := by
  obtain ⟨⟨k, bad⟩, bey⟩ := g
  obtain ⟨h1, h2, h3, h4⟩ := h
  simp only at h1 h2 h3 h4
  subst h1 h2
  unfold encT at h4
  rw [List.append_assoc] at h4
  obtain ⟨s1, s2⟩ := stand_step h3 h4
  obtain ⟨t1, t2⟩ := stand_step s1 s2
  have hl : s.data.toList.length = s.size := by simp
  rw [hl] at t1 t2
  refine ⟨⟨⟨k + (enc s.size).length + s.size, false⟩, false⟩, ?_, rfl, rfl, t1, t2⟩
  unfold gText rsText
  simp only [dec_stand (show s.size < 18446744073709551616 by omega) h4]
  rw [if_neg (by decide), if_neg (by omega), s2, ← hl]
  simp
theorem stand_bks {l rest : List UInt8} : ∀ (bs : List Nat) (g : Gs) (acc : List Nat), (∀ n ∈ bs, n < 18446744073709551616) → Stand l g (bksL bs ++ rest) → ∃ g', gBks l bs.length g acc = (acc ++ bs, g') ∧ Stand l g' rest
  | [], g, acc, _, h => ⟨g, by simp [gBks], by simpa [bksL] using h⟩
  | n :: bs, g, acc, hn, h => by
    have h' : Stand l g (enc n ++ (bksL bs ++ rest)) := by simpa [bksL] using h
    obtain ⟨g1, e1, s1⟩ := stand_num (hn n (by simp)) h'
    obtain ⟨g2, e2, s2⟩ := stand_bks bs g1 (acc ++ [n]) (fun m hm => hn m (by simp [hm])) s1
    refine ⟨g2, ?_, s2⟩
    rw [List.length_cons, gBks, e1]
    simp only
    rw [e2]
    simp
theorem overN_lt (b : Bool) : overN b ≤ 1 := by cases b <;> simp [overN]
theorem overN_eq (b : Bool) : (overN b == 1) = b := by cases b <;> rfl
theorem stand_row {l rest : List UInt8} {g : Gs} {r : Rw} (hr : InR r) (h : Stand l g (rowL r ++ rest)) : ∃ g', gRow l g = (r, g') ∧ Stand l g' rest := by
  unfold rowL rowHead at h
  simp only [List.append_assoc] at h
  obtain ⟨ga, ea, h⟩ := stand_text hr.key h
  obtain ⟨gb, eb, h⟩ := stand_up (m := 3) (by have := hr.kind0; have := hr.kind1; omega) (by have := hr.kind1; omega) h
  obtain ⟨gc, ec, h⟩ := stand_num hr.fit.many h
  obtain ⟨gd, ed, h⟩ := stand_num (fold_lt hr.fit.sum0 hr.fit.sum1) h
  obtain ⟨ge, ee, h⟩ := stand_num (fold_lt hr.fit.least0 hr.fit.least1) h
  obtain ⟨gf, ef, h⟩ := stand_num (fold_lt hr.fit.most0 hr.fit.most1) h
  obtain ⟨go, eo, h⟩ := stand_up (m := 1) (overN_lt _) (by have := overN_lt r.over; omega) h
  obtain ⟨gm, em, h⟩ := stand_up (m := 65) hr.len (by have := hr.len; omega) h
  obtain ⟨gt, et, h⟩ := stand_bks r.bks gm [] hr.fit.bks h
  refine ⟨gt, ?_, h⟩
  unfold gRow gHead
  simp only [ea, eb, ec, ed, ee, ef, eo, em, et]
  obtain ⟨k, kd, mn, sm, ls, ms, ov, bk⟩ := r
  have h0 := hr.kind0
  simp only at h0 ⊢
  rw [overN_eq, unfold_fold, unfold_fold, unfold_fold, Int.toNat_of_nonneg h0]
  simp
theorem stand_rows {l rest : List UInt8} : ∀ (rs : List Rw) (g : Gs) (acc : List Rw), (∀ r ∈ rs, InR r) → Stand l g (rowsL rs ++ rest) → ∃ g', gRows l rs.length g acc = (acc ++ rs, g') ∧ Stand l g' rest
  | [], g, acc, _, h => ⟨g, by simp [gRows], by simpa [rowsL] using h⟩
  | r :: rs, g, acc, hr, h => by
    have h' : Stand l g (rowL r ++ (rowsL rs ++ rest)) := by simpa [rowsL] using h
    obtain ⟨g1, e1, s1⟩ := stand_row (hr r (by simp)) h'
    obtain ⟨g2, e2, s2⟩ := stand_rows rs g1 (acc ++ [r]) (fun m hm => hr m (by simp [hm])) s1
    refine ⟨g2, ?_, s2⟩
    rw [List.length_cons, gRows, e1]
    simp only
    rw [e2]
    simp
theorem get_put {b : Bt} (hb : InB b) : ∃ g, gBatch (putL b) = (b, g) ∧ g.bey = false ∧ rsEnd (putL b) g.r = none := by
  have h : Stand (putL b) g0 (putL b) := ⟨rfl, rfl, Nat.zero_le _, rfl⟩
  generalize hl : putL b = l at h ⊢
  have h : Stand l g0 (putL b ++ []) := by rw [hl, List.append_nil]; exact h
  unfold putL putHead at h
  simp only [List.append_assoc] at h
  obtain ⟨ga, ea, h⟩ := stand_up (m := 2147483647) (by have := hb.seq0; have := hb.seq1; omega) (by have := hb.seq1; omega) h
  obtain ⟨gb, eb, h⟩ := stand_up (m := 1099511627776) (by have := hb.start0; have := hb.start1; omega) (by have := hb.start1; omega) h
  obtain ⟨gc, ec, h⟩ := stand_up (m := 200) hb.len (by have := hb.len; omega) h
  obtain ⟨gt, et, h⟩ := stand_rows b.rows gc [] hb.rows h
  refine ⟨gt, ?_, h.1, ?_⟩
  · unfold gBatch
    simp only [ea, eb, ec, et]
    obtain ⟨s, t, rs⟩ := b
    have h0 := hb.seq0
    have h1 := hb.start0
    simp only at h0 h1 ⊢
    rw [Int.toNat_of_nonneg h0, Int.toNat_of_nonneg h1]
    simp
  · obtain ⟨_, h2, h3, h4⟩ := h
    unfold rsEnd
    rw [if_pos]
    refine ⟨h2, ?_⟩
    have := List.drop_eq_nil_iff.1 h4
    omega

/-- What is read is what was written. -/
theorem dec_inv : ∀ (s : List UInt8) (i a n k : Nat), decF i a s = some (n, k) → ∃ m, n = a + m * 128 ^ i ∧ k = i + (enc m).length ∧ s = enc m ++ s.drop (k - i) ∧ (0 < i → 0 < m)
  | [], i, a, n, k, h => by rw [dec_nil] at h; cases h
  | c :: s, i, a, n, k, h => by
    rw [dec_cons] at h
    unfold decStep at h
    have hc := UInt8.toNat_lt c
    split at h
    · cases h
    split at h
    · rename_i h2
      split at h
      · cases h
      · rename_i h3
        cases h
        have he : enc c.toNat = [c] := by rw [enc_small h2]; simp
        refine ⟨c.toNat, rfl, by rw [he]; rfl, ?_, fun hi => by omega⟩
        rw [he, show i + 1 - i = 1 by omega]
        simp
    · rename_i h2
      obtain ⟨m, e1, e2, e3, e4⟩ := dec_inv s (i + 1) _ n k h
      have hm := e4 (by omega)
      have hg : 128 ≤ c.toNat - 128 + 128 * m := by omega
      have he : enc (c.toNat - 128 + 128 * m) = c :: enc m := by
        rw [enc_great hg, show (c.toNat - 128 + 128 * m) % 128 + 128 = c.toNat by omega, show (c.toNat - 128 + 128 * m) / 128 = m by omega]
        simp
      refine ⟨c.toNat - 128 + 128 * m, ?_, ?_, ?_, fun _ => by omega⟩
      · rw [e1, Nat.add_mul, pow_split, Nat.add_assoc]
        congr 2
        rw [Nat.mul_comm (128 ^ i) 128, ← Nat.mul_assoc, Nat.mul_comm m 128]
      · rw [he, e2, List.length_cons]; omega
      · rw [he, List.cons_append]
        congr 1
        rw [show k - i = (k - (i + 1)) + 1 by rw [e2]; omega, List.drop_succ_cons]
        exact e3
theorem dec_whole {s : List UInt8} {n k : Nat} (h : decF 0 0 s = some (n, k)) : k = (enc n).length ∧ s = enc n ++ s.drop k := by
  obtain ⟨m, e1, e2, e3, _⟩ := dec_inv s 0 0 n k h
  have : n = m := by simpa using e1
  subst this
  exact ⟨by omega, by simpa using e3⟩
theorem fold_unfold (n : Nat) : foldN (unfoldN n) = n := by
  unfold foldN unfoldN
  by_cases h : n % 2 = 1
  · rw [if_pos h, if_pos (by omega)]; omega
  · rw [if_neg h, if_neg (by omega)]; omega
theorem unfold_bounds {n : Nat} (h : n < 18446744073709551616) : -9223372036854775808 ≤ unfoldN n ∧ unfoldN n ≤ 9223372036854775807 := by
  unfold unfoldN
  split <;> omega

/-- Nothing is amiss. -/
def Clean (l : List UInt8) (g : Gs) : Prop := g.bey = false ∧ g.r.bad = false ∧ g.r.at_ ≤ l.length
theorem back_num {l : List UInt8} {g : Gs} (hat : g.r.at_ ≤ l.length) (h : (gNum l g).2.r.bad = false) :
    g.r.bad = false ∧ (gNum l g).2.r.at_ ≤ l.length ∧ l.drop g.r.at_ = enc (gNum l g).1 ++ l.drop (gNum l g).2.r.at_ := by
  obtain ⟨⟨k, bad⟩, bey⟩ := g
  have hle := (rsNum_le (l := l) (r := ⟨k, bad⟩) hat).1
  unfold gNum at h ⊢
  simp only at h hat ⊢
  refine ⟨?_, hle, ?_⟩
  · cases bad with
    | false => rfl
    | true => unfold rsNum at h; exact h
  · cases bad with
    | true => unfold rsNum at h; cases h
    | false =>
      unfold rsNum at h ⊢
      simp only at h ⊢
      cases hd : decF 0 0 (l.drop k) with
      | none => rw [hd] at h; cases h
      | some p =>
        obtain ⟨n, j⟩ := p
        obtain ⟨e1, e2⟩ := dec_whole hd
        simp only [Bool.false_eq_true, if_false]
        rw [← List.drop_drop]
        exact e2
theorem gUp_or (l : List UInt8) (m : Nat) (g : Gs) : (gUp l m g).2.bey = false → g.bey = false ∧ gUp l m g = gNum l g ∧ (gNum l g).1 ≤ m := by
  unfold gUp gNum
  split
  · intro h; cases h
  · intro h
    exact ⟨h, rfl, by simp only; omega⟩
theorem gUp_at (l : List UInt8) (m : Nat) (g : Gs) : (gUp l m g).2.r = (gNum l g).2.r := by
  unfold gUp gNum
  split <;> rfl
theorem gUp_le (l : List UInt8) (m : Nat) (g : Gs) : (gUp l m g).1 ≤ m := by
  unfold gUp
  split
  · simp
  · simp only; omega
theorem num_at {l : List UInt8} {g : Gs} (h : g.r.at_ ≤ l.length) : (gNum l g).2.r.at_ ≤ l.length := (rsNum_le (l := l) (r := g.r) h).1
theorem num_lt {l : List UInt8} {g : Gs} (h : g.r.at_ ≤ l.length) : (gNum l g).1 < 18446744073709551616 := (rsNum_le (l := l) (r := g.r) h).2
theorem up_at {l : List UInt8} {m : Nat} {g : Gs} (h : g.r.at_ ≤ l.length) : (gUp l m g).2.r.at_ ≤ l.length := by rw [gUp_at]; exact num_at h
theorem text_at {l : List UInt8} {g : Gs} (h : g.r.at_ ≤ l.length) : (gText l g).2.r.at_ ≤ l.length := rsText_le (l := l) (r := g.r) h
theorem back_up {l : List UInt8} {m : Nat} {g : Gs} (hat : g.r.at_ ≤ l.length) (h : Clean l (gUp l m g).2) :
    Clean l g ∧ l.drop g.r.at_ = enc (gUp l m g).1 ++ l.drop (gUp l m g).2.r.at_ := by
  obtain ⟨h1, h2, h3⟩ := h
  obtain ⟨k1, k2, k3⟩ := gUp_or l m g h1
  rw [k2] at h2 ⊢
  obtain ⟨j1, j2, j3⟩ := back_num hat h2
  exact ⟨⟨k1, j1, hat⟩, j3⟩
theorem back_n {l : List UInt8} {g : Gs} (hat : g.r.at_ ≤ l.length) (h : Clean l (gNum l g).2) :
    Clean l g ∧ l.drop g.r.at_ = enc (gNum l g).1 ++ l.drop (gNum l g).2.r.at_ := by
  obtain ⟨h1, h2, h3⟩ := h
  obtain ⟨j1, j2, j3⟩ := back_num hat h2
  exact ⟨⟨h1, j1, hat⟩, j3⟩
theorem back_text {l : List UInt8} {g : Gs} (hat : g.r.at_ ≤ l.length) (h : Clean l (gText l g).2) :
    Clean l g ∧ l.drop g.r.at_ = encT ⟨(gText l g).1.toArray⟩ ++ l.drop (gText l g).2.r.at_ ∧ (gText l g).1.length ≤ 300 := by
  obtain ⟨⟨k, bad⟩, bey⟩ := g
  obtain ⟨h1, h2, h3⟩ := h
  unfold gText at h1 h2 h3 ⊢
  simp only at h1 h2 h3 hat ⊢
  cases bad with
  | true => unfold rsText at h2; cases h2
  | false =>
    refine ⟨⟨h1, rfl, hat⟩, ?_⟩
    unfold rsText at h2 ⊢
    simp only at h2 ⊢
    cases hd : decF 0 0 (l.drop k) with
    | none => rw [hd] at h2; cases h2
    | some p =>
      obtain ⟨n, j⟩ := p
      rw [hd] at h2
      simp only [Bool.false_eq_true, if_false] at h2 ⊢
      split at h2
      · cases h2
      · rename_i hc
        rw [if_neg hc]
        obtain ⟨e1, e2⟩ := dec_whole hd
        obtain ⟨_, _, b3, _⟩ := dec_bound _ 0 0 _ _ (by omega) hd
        rw [List.length_drop] at b3
        have hlen : ((l.drop (k + j)).take n).length = n := by rw [List.length_take, List.length_drop]; omega
        refine ⟨?_, by simp only; omega⟩
        unfold encT
        have hsz : (⟨((l.drop (k + j)).take n).toArray⟩ : ByteArray).size = n := by
          show ((l.drop (k + j)).take n).toArray.size = n
          simp only [List.size_toArray]; exact hlen
        simp only
        rw [hsz, List.append_assoc, ← List.drop_drop (i := n) (j := k + j), List.take_append_drop, ← List.drop_drop]
        exact e2
theorem bks_at {l : List UInt8} : ∀ (k : Nat) (g : Gs) (acc : List Nat), g.r.at_ ≤ l.length → (gBks l k g acc).2.r.at_ ≤ l.length
  | 0, g, acc, h => h
  | k + 1, g, acc, h => bks_at k _ _ (num_at h)
theorem back_bks {l : List UInt8} : ∀ (k : Nat) (g : Gs) (acc : List Nat), g.r.at_ ≤ l.length → Clean l (gBks l k g acc).2 →
    Clean l g ∧ ∃ bs, (gBks l k g acc).1 = acc ++ bs ∧ bs.length = k ∧ l.drop g.r.at_ = bksL bs ++ l.drop (gBks l k g acc).2.r.at_
  | 0, g, acc, hat, h => ⟨h, [], by simp [gBks], rfl, by simp [gBks, bksL]⟩
  | k + 1, g, acc, hat, h => by
    rw [gBks] at h ⊢
    obtain ⟨c1, bs, e1, e2, e3⟩ := back_bks k _ _ (num_at hat) h
    obtain ⟨c0, d0⟩ := back_n hat c1
    refine ⟨c0, (gNum l g).1 :: bs, by rw [e1]; simp, by simp [e2], ?_⟩
    rw [d0, e3]
    simp [bksL]
theorem bks_lt {l : List UInt8} : ∀ (k : Nat) (g : Gs) (acc : List Nat), g.r.at_ ≤ l.length → (∀ n ∈ acc, n < 18446744073709551616) → ∀ n ∈ (gBks l k g acc).1, n < 18446744073709551616
  | 0, g, acc, _, h => h
  | k + 1, g, acc, hat, h => bks_lt k _ _ (num_at hat) (fun n hn => by
      rcases List.mem_append.1 hn with hn | hn
      · exact h n hn
      · obtain rfl : n = (gNum l g).1 := by simpa using hn
        exact num_lt hat)
theorem bks_len {l : List UInt8} : ∀ (k : Nat) (g : Gs) (acc : List Nat), (gBks l k g acc).1.length = acc.length + k
  | 0, g, acc => rfl
  | k + 1, g, acc => by rw [gBks, bks_len k]; simp; omega
theorem overN_back {n : Nat} (h : n ≤ 1) : overN (n == 1) = n := by
  rcases Nat.lt_or_ge n 1 with h1 | h1
  · obtain rfl : n = 0 := by omega
    rfl
  · obtain rfl : n = 1 := by omega
    rfl
theorem head_at {l : List UInt8} {g : Gs} (h : g.r.at_ ≤ l.length) : (gHead l g).2.r.at_ ≤ l.length := by
  unfold gHead
  exact up_at (num_at (num_at (num_at (num_at (up_at (text_at h))))))
theorem row_at {l : List UInt8} {g : Gs} (h : g.r.at_ ≤ l.length) : (gRow l g).2.r.at_ ≤ l.length := by
  unfold gRow
  exact bks_at _ _ _ (up_at (head_at h))
theorem row_fit {l : List UInt8} {g : Gs} (h : g.r.at_ ≤ l.length) : FitR (gRow l g).1 := by
  have ha := text_at h
  have hb := up_at (m := 3) ha
  have hc := num_at hb
  have hd := num_at hc
  have he := num_at hd
  have hf := num_at he
  have hh := head_at h
  have u1 := unfold_bounds (num_lt hc)
  have u2 := unfold_bounds (num_lt hd)
  have u3 := unfold_bounds (num_lt he)
  exact ⟨num_lt hb, u1.1, u1.2, u2.1, u2.2, u3.1, u3.2, bks_lt _ _ _ (up_at hh) (fun n hn => by simp at hn)⟩
theorem back_row {l : List UInt8} {g : Gs} (hat : g.r.at_ ≤ l.length) (h : Clean l (gRow l g).2) :
    Clean l g ∧ l.drop g.r.at_ = rowL (gRow l g).1 ++ l.drop (gRow l g).2.r.at_ := by
  have ha := text_at hat
  have hb := up_at (m := 3) ha
  have hc := num_at hb
  have hd := num_at hc
  have he := num_at hd
  have hf := num_at he
  have hh := head_at hat
  unfold gRow at h ⊢
  simp only at h ⊢
  obtain ⟨cm, bs, et, el, dt⟩ := back_bks _ _ _ (up_at hh) h
  obtain ⟨ch, dm⟩ := back_up hh cm
  rw [List.nil_append] at et
  unfold gHead at ch dm et dt el ⊢
  simp only at ch dm et dt el ⊢
  have lo := gUp_le l 1 (gNum l (gNum l (gNum l (gNum l (gUp l 3 (gText l g).2).2).2).2).2).2
  obtain ⟨cf, do_⟩ := back_up hf ch
  obtain ⟨ce, df⟩ := back_n he cf
  obtain ⟨cd, de⟩ := back_n hd ce
  obtain ⟨cc, dd⟩ := back_n hc cd
  obtain ⟨cb, dc⟩ := back_n hb cc
  obtain ⟨ca, db⟩ := back_up ha cb
  obtain ⟨c0, da, _⟩ := back_text hat ca
  refine ⟨c0, ?_⟩
  unfold rowL rowHead
  simp only
  rw [et, da, db, dc, dd, de, df, do_, dm, dt, fold_unfold, fold_unfold, fold_unfold, overN_back lo, el]
  simp only [List.append_assoc, Int.toNat_natCast]
theorem rows_at {l : List UInt8} : ∀ (k : Nat) (g : Gs) (acc : List Rw), g.r.at_ ≤ l.length → (gRows l k g acc).2.r.at_ ≤ l.length
  | 0, g, acc, h => h
  | k + 1, g, acc, h => rows_at k _ _ (row_at h)
theorem rows_fit {l : List UInt8} : ∀ (k : Nat) (g : Gs) (acc : List Rw), g.r.at_ ≤ l.length → (∀ r ∈ acc, FitR r) → ∀ r ∈ (gRows l k g acc).1, FitR r
  | 0, g, acc, _, h => h
  | k + 1, g, acc, hat, h => rows_fit k _ _ (row_at hat) (fun r hr => by
      rcases List.mem_append.1 hr with hr | hr
      · exact h r hr
      · obtain rfl : r = (gRow l g).1 := by simpa using hr
        exact row_fit hat)
theorem rows_len {l : List UInt8} : ∀ (k : Nat) (g : Gs) (acc : List Rw), (gRows l k g acc).1.length = acc.length + k
  | 0, g, acc => rfl
  | k + 1, g, acc => by rw [gRows, rows_len k]; simp; omega
theorem back_rows {l : List UInt8} : ∀ (k : Nat) (g : Gs) (acc : List Rw), g.r.at_ ≤ l.length → Clean l (gRows l k g acc).2 →
    Clean l g ∧ ∃ rs, (gRows l k g acc).1 = acc ++ rs ∧ rs.length = k ∧ l.drop g.r.at_ = rowsL rs ++ l.drop (gRows l k g acc).2.r.at_
  | 0, g, acc, hat, h => ⟨h, [], by simp [gRows], rfl, by simp [gRows, rowsL]⟩
  | k + 1, g, acc, hat, h => by
    rw [gRows] at h ⊢
    obtain ⟨c1, rs, e1, e2, e3⟩ := back_rows k _ _ (row_at hat) h
    obtain ⟨c0, d0⟩ := back_row hat c1
    refine ⟨c0, (gRow l g).1 :: rs, by rw [e1]; simp, by simp [e2], ?_⟩
    rw [d0, e3]
    simp [rowsL]
theorem batch_at (l : List UInt8) : (gBatch l).2.r.at_ ≤ l.length := by
  unfold gBatch
  exact rows_at _ _ _ (up_at (up_at (up_at (Nat.zero_le _))))
theorem batch_fit (l : List UInt8) : (∀ r ∈ (gBatch l).1.rows, FitR r) ∧ 0 ≤ (gBatch l).1.seq ∧ (gBatch l).1.seq ≤ 2147483647 ∧ 0 ≤ (gBatch l).1.start ∧ (gBatch l).1.start ≤ 1099511627776 ∧ (gBatch l).1.rows.length ≤ 200 := by
  unfold gBatch
  simp only
  have h1 := gUp_le l 2147483647 g0
  have h2 := gUp_le l 1099511627776 (gUp l 2147483647 g0).2
  have h3 := gUp_le l 200 (gUp l 1099511627776 (gUp l 2147483647 g0).2).2
  refine ⟨rows_fit _ _ _ (up_at (up_at (up_at (Nat.zero_le _)))) (fun r hr => by simp at hr), by omega, by omega, by omega, by omega, ?_⟩
  rw [rows_len]
  simp
  exact h3
theorem rsEnd_none {l : List UInt8} {r : Rs} (h : rsEnd l r = none) : r.bad = false ∧ r.at_ = l.length := by
  unfold rsEnd at h
  split at h
  · assumption
  · cases h
theorem put_get {l : List UInt8} (h1 : (gBatch l).2.bey = false) (h2 : rsEnd l (gBatch l).2.r = none) : putL (gBatch l).1 = l := by
  obtain ⟨e1, e2⟩ := rsEnd_none h2
  have hc : Clean l (gBatch l).2 := ⟨h1, e1, batch_at l⟩
  unfold gBatch at hc e2 ⊢
  simp only at hc e2 ⊢
  have ha := up_at (l := l) (m := 2147483647) (g := g0) (Nat.zero_le _)
  have hb := up_at (m := 1099511627776) ha
  have hcc := up_at (m := 200) hb
  obtain ⟨cc, rs, er, el, dr⟩ := back_rows _ _ _ hcc hc
  obtain ⟨cb, dc⟩ := back_up hb cc
  obtain ⟨ca, db⟩ := back_up ha cb
  obtain ⟨c0, da⟩ := back_up (Nat.zero_le _) ca
  rw [e2] at dr
  rw [List.nil_append] at er
  unfold putL putHead
  simp only
  rw [er, el]
  rw [List.drop_length, List.append_nil] at dr
  rw [dr] at dc
  rw [dc] at db
  rw [db] at da
  simp only [Int.toNat_natCast, List.append_assoc]
  exact da.symm
end Go.Proofs.Ytmlpoeneopppaaa
