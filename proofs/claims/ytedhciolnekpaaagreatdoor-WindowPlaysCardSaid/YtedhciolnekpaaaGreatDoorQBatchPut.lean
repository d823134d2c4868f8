/-
  Layer 7 (batch): May and what it calls: whether buckets, a row, rows, a batch may be. Layer 7 (batch): May and what it calls: whether rows, and a batch, may be. Layer 7 (batch): Put: a batch's bytes, or the error ErrArg.
-/
import Derived.Test.YtedhciolnekpaaaGreatDoorGrpG
import Derived.Deep.RegionHeld3
namespace Go.Proofs.YtedhciolnekpaaaGreatDoor
open Go.ChangeShapes Go.WideShapes Go.ChangeAt Go.RowKit Go.Sort
set_option linter.unusedVariables false

theorem bk_other {r : Rw} (h : r.kind ≠ 3) : bkOk r = (r.bks.length == 0) := by unfold bkOk; rw [if_neg h]
theorem len_beq (n : Nat) : ((n : Int) == 0) = (n == 0) := by
  rw [Bool.eq_iff_iff, beq_iff_eq, beq_iff_eq]; omega
theorem lss_key (a b : ByteArray) : Op.bytesLess a.toList b.toList = decide (a.data.toList < b.data.toList) := by
  rw [bytesLess_eq, Lib.toList_data, Lib.toList_data]
theorem riseR_same {a b : Rw} (h : a.key = b.key) : riseR a b = decide (a.kind < b.kind) := by unfold riseR; rw [if_pos h]
theorem riseR_other {a b : Rw} (h : a.key ≠ b.key) : riseR a b = decide (a.key.data.toList < b.key.data.toList) := by unfold riseR; rw [if_neg h]
theorem rowOk_of {r : Rw} (h1 : 1 ≤ r.kind) (h2 : r.kind ≤ 3) (h3 : 1 ≤ r.many) (h4 : r.least ≤ r.most) : rowOk r = (bkOk r && keyOk r.key) := by
  unfold rowOk
  rw [decide_eq_true h1, decide_eq_true h2, decide_eq_true h3, decide_eq_true h4]
  simp
theorem rowOk_not {r : Rw} (h : ¬ (1 ≤ r.kind ∧ r.kind ≤ 3 ∧ 1 ≤ r.many ∧ r.least ≤ r.most ∧ bkOk r = true)) : rowOk r = false := by
  rw [Bool.eq_false_iff]
  intro e
  obtain ⟨h1, h2, h3, h4, h5, _⟩ := rowOk_parts e
  exact h ⟨h1, h2, h3, h4, h5⟩
end Go.Proofs.YtedhciolnekpaaaGreatDoor
namespace Go.Proofs.YtedhciolnekpaaaGreatDoor
open Go.ChangeShapes Go.WideShapes Go.ChangeAt Go.RowKit Go.Sort
set_option linter.unusedVariables false

def SizedR (rows : List Rw) : Prop := rows.length ≤ 4611686018427387904 ∧ ∀ r ∈ rows, r.key.size ≤ 9223372036854775807 ∧ r.bks.length ≤ 4611686018427387904
theorem cell_below {w1 w2 : World} {b o : Nat} {v : Value} (h : w1.cell? ⟨b, o, none⟩ = some v) (hb : Below w1.heap.size w1 w2) : w2.cell? ⟨b, o, none⟩ = some v := by
  rw [hb.cell (World.block_lt_of_cell? w1 _ h)]; exact h
/-- Take number i first, where its guard is false: its temporary holds nothing. -/
theorem takeSkip {P : Program} {md : Region.Mode} {ops : Array Oper} {Q : Exit → Act → World → Prop} {S : World → Prop} (i d : Nat) {oi : Oper} {fuel : Nat} {listed : Array Bool} {a : Act} {w : World} (hi : ops[i]? = some oi) (hd : oi.dst = some d)
    (hs : Region.noSelect ops = true) (hf : Region.free md ops listed i = true) (hr : (Region.ready md ops listed).contains i = true)
    (hQ : ∀ c a w, Q (.panic c) (a.put (some d) undef) w → Q (.panic c) a w) (hw : Region.wanted oi (yielded ops a.tmps) = false) (hS : S w)
    (h : wpAnyH P md ops Q S fuel (listed.setIfInBounds i true) (a.put (some d) undef) w) : wpAnyH P md ops Q S (fuel + 1) listed a w := by
  rw [← hd] at hQ h
  exact wpAnyH_take hi hs hf hr hQ (Or.inr ⟨hw, rfl⟩) hS h
/-- Take number i first, where its guard is true, or it has none. -/
theorem takeWanted {P : Program} {md : Region.Mode} {ops : Array Oper} {Q : Exit → Act → World → Prop} {S : World → Prop} (i d : Nat) {oi : Oper} {v : Value} {fuel : Nat} {listed : Array Bool} {a : Act} {w : World} (hi : ops[i]? = some oi) (hd : oi.dst = some d)
    (hs : Region.noSelect ops = true) (hf : Region.free md ops listed i = true) (hr : (Region.ready md ops listed).contains i = true)
    (hQ : ∀ c a w, Q (.panic c) (a.put (some d) v) w → Q (.panic c) a w) (hw : Region.wanted oi (yielded ops a.tmps) = true) (hy : ∀ w, S w → (execOp a.eval oi).run P w = .ok (.value v) w) (hS : S w)
    (h : wpAnyH P md ops Q S fuel (listed.setIfInBounds i true) (a.put (some d) v) w) : wpAnyH P md ops Q S (fuel + 1) listed a w := by
  rw [← hd] at hQ h
  exact wpAnyH_take hi hs hf hr hQ (Or.inl ⟨hw, hy⟩) hS h
/-- A row's eight cells. -/
def R8 (w' : World) (N k : Nat) (r : Rw) (B : Option Addr) (c' : Nat) : Prop := w'.cell? ⟨N, k, none⟩ = some (.string r.key) ∧ w'.cell? ⟨N, k + 1, none⟩ = some (.int .i64 r.kind) ∧ w'.cell? ⟨N, k + 2, none⟩ = some (.int .u64 (r.many : Nat)) ∧ w'.cell? ⟨N, k + 3, none⟩ = some (.int .i64 r.sum) ∧ w'.cell? ⟨N, k + 4, none⟩ = some (.int .i64 r.least) ∧ w'.cell? ⟨N, k + 5, none⟩ = some (.int .i64 r.most) ∧ w'.cell? ⟨N, k + 6, none⟩ = some (.bool r.over) ∧ w'.cell? ⟨N, k + 7, none⟩ = some (.slice B r.bks.length c')
theorem RowAt.r8 {w : World} {b k : Nat} {r : Rw} {B : Option Addr} {c : Nat} (h : RowAt w b k r B c) : R8 w b k r B c := ⟨h.p0, h.p1, h.p2, h.p3, h.p4, h.p5, h.p6, h.p7⟩
theorem R8.below {w w' : World} {b k : Nat} {r : Rw} {B : Option Addr} {c : Nat} (h : R8 w b k r B c) (hb : Below w.heap.size w w') : R8 w' b k r B c :=
  ⟨cell_below h.1 hb, cell_below h.2.1 hb, cell_below h.2.2.1 hb, cell_below h.2.2.2.1 hb, cell_below h.2.2.2.2.1 hb, cell_below h.2.2.2.2.2.1 hb, cell_below h.2.2.2.2.2.2.1 hb, cell_below h.2.2.2.2.2.2.2 hb⟩
theorem RowB.r8 {w : World} {g : Nat} {r : Rw} {B : Option Addr} {c : Nat} (h : RowB w g r B c) : R8 w g 0 r B c := ⟨h.c0, h.c1, h.c2, h.c3, h.c4, h.c5, h.c6, h.c7⟩

theorem both_below {w w' : World} {N b k : Nat} {r a : Rw} {B B1 : Option Addr} {c' c1 : Nat} (h : (w.cell? ⟨N, 0, none⟩ = some (.string r.key) ∧ w.cell? ⟨N, 1, none⟩ = some (.int .i64 r.kind) ∧ w.cell? ⟨N, 2, none⟩ = some (.int .u64 (r.many : Nat)) ∧ w.cell? ⟨N, 3, none⟩ = some (.int .i64 r.sum) ∧ w.cell? ⟨N, 4, none⟩ = some (.int .i64 r.least) ∧ w.cell? ⟨N, 5, none⟩ = some (.int .i64 r.most) ∧ w.cell? ⟨N, 6, none⟩ = some (.bool r.over) ∧ w.cell? ⟨N, 7, none⟩ = some (.slice B r.bks.length c')) ∧ (w.cell? ⟨b, k, none⟩ = some (.string a.key) ∧ w.cell? ⟨b, k + 1, none⟩ = some (.int .i64 a.kind) ∧ w.cell? ⟨b, k + 2, none⟩ = some (.int .u64 (a.many : Nat)) ∧ w.cell? ⟨b, k + 3, none⟩ = some (.int .i64 a.sum) ∧ w.cell? ⟨b, k + 4, none⟩ = some (.int .i64 a.least) ∧ w.cell? ⟨b, k + 5, none⟩ = some (.int .i64 a.most) ∧ w.cell? ⟨b, k + 6, none⟩ = some (.bool a.over) ∧ w.cell? ⟨b, k + 7, none⟩ = some (.slice B1 a.bks.length c1))) (hb : Below w.heap.size w w') : (w'.cell? ⟨N, 0, none⟩ = some (.string r.key) ∧ w'.cell? ⟨N, 1, none⟩ = some (.int .i64 r.kind) ∧ w'.cell? ⟨N, 2, none⟩ = some (.int .u64 (r.many : Nat)) ∧ w'.cell? ⟨N, 3, none⟩ = some (.int .i64 r.sum) ∧ w'.cell? ⟨N, 4, none⟩ = some (.int .i64 r.least) ∧ w'.cell? ⟨N, 5, none⟩ = some (.int .i64 r.most) ∧ w'.cell? ⟨N, 6, none⟩ = some (.bool r.over) ∧ w'.cell? ⟨N, 7, none⟩ = some (.slice B r.bks.length c')) ∧ (w'.cell? ⟨b, k, none⟩ = some (.string a.key) ∧ w'.cell? ⟨b, k + 1, none⟩ = some (.int .i64 a.kind) ∧ w'.cell? ⟨b, k + 2, none⟩ = some (.int .u64 (a.many : Nat)) ∧ w'.cell? ⟨b, k + 3, none⟩ = some (.int .i64 a.sum) ∧ w'.cell? ⟨b, k + 4, none⟩ = some (.int .i64 a.least) ∧ w'.cell? ⟨b, k + 5, none⟩ = some (.int .i64 a.most) ∧ w'.cell? ⟨b, k + 6, none⟩ = some (.bool a.over) ∧ w'.cell? ⟨b, k + 7, none⟩ = some (.slice B1 a.bks.length c1)) := ⟨R8.below (k := 0) h.1 hb, R8.below h.2 hb⟩
theorem mayOk_of {b : Bt} (h0 : 0 ≤ b.seq) (h1 : b.seq ≤ 2147483647) (h2 : 0 ≤ b.start) (h3 : b.start ≤ 1099511627776) : mayOk b = rowsOk b.rows := by
  unfold mayOk
  rw [decide_eq_true h0, decide_eq_true h1, decide_eq_true h2, decide_eq_true h3]
  simp
theorem mayOk_not {b : Bt} (h : ¬ (0 ≤ b.seq ∧ b.seq ≤ 2147483647 ∧ 0 ≤ b.start ∧ b.start ≤ 1099511627776)) : mayOk b = false := by
  rw [Bool.eq_false_iff]
  intro e
  obtain ⟨h1, h2, h3, h4, _⟩ := mayOk_parts e
  exact h ⟨h1, h2, h3, h4⟩
end Go.Proofs.YtedhciolnekpaaaGreatDoor
namespace Go.Proofs.YtedhciolnekpaaaGreatDoor
open Go.ChangeShapes Go.WideShapes Go.ChangeAt Go.RowKit
set_option linter.unusedVariables false

def PutBad (w : World) (e : Ending) (w' : World) : Prop := e = .returned (.tuple #[.slice none 0 0, .iface 33 (.int .i64 1)]) ∧ Below w.heap.size w w'
def PutGood (w : World) (l : List UInt8) (e : Ending) (w' : World) : Prop := ∃ v, e = .returned (.tuple #[v, .nilIface]) ∧ OB w' w.heap.size v l ∧ Below w.heap.size w w'
/-- Where the writing of a batch stands. -/
structure Pb (w : World) (b : Bt) (A : Option Addr) (c : Nat) (L : List UInt8) (v : Value) (wr : World) : Prop where
  own : OB wr (w.heap.size + 1) v L
  bt : BtB wr w.heap.size b.seq b.start A b.rows.length c
  below : Below w.heap.size w wr
theorem Pb.size {w wr : World} {b : Bt} {A : Option Addr} {c : Nat} {L : List UInt8} {v : Value} (h : Pb w b A c L v wr) : w.heap.size + 1 ≤ wr.heap.size := h.bt.lt
theorem Pb.on {w wr w' : World} {b : Bt} {A : Option Addr} {c : Nat} {L L' : List UInt8} {v v' : Value} (h : Pb w b A c L v wr) (o : OB w' (w.heap.size + 1) v' L') (hb : Below (w.heap.size + 1) wr w') : Pb w b A c L' v' w' :=
  ⟨o, h.bt.keep hb (Nat.lt_succ_self _), h.below.trans (hb.mono (Nat.le_succ _))⟩
theorem rowsL_len : ∀ rows : List Rw, (∀ r ∈ rows, InR r) → (rowsL rows).length ≤ 1100 * rows.length
  | [], _ => by simp [rowsL]
  | r :: rows, h => by
    have h1 := rowsL_len rows (fun x hx => h x (by simp [hx]))
    have hr := h r (by simp)
    have h2 := rowL_len hr.fit (by have := hr.key; omega) hr.kind0 hr.kind1 (by have := hr.len; omega)
    have h3 := hr.key
    have h4 := hr.len
    have e : rowsL (r :: rows) = rowL r ++ rowsL rows := by simp [rowsL]
    rw [e, List.length_append, List.length_cons]
    omega
theorem putL_len {b : Bt} (h : InB b) : (putL b).length ≤ 230000 := by
  have h1 := rowsL_len b.rows h.rows
  have h2 := enc_length b.seq.toNat (by have := h.seq1; omega)
  have h3 := enc_length b.start.toNat (by have := h.start1; omega)
  have h4 := enc_length b.rows.length (by have := h.len; omega)
  have h5 := h.len
  unfold putL putHead
  simp only [List.length_append]
  omega

end Go.Proofs.YtedhciolnekpaaaGreatDoor
