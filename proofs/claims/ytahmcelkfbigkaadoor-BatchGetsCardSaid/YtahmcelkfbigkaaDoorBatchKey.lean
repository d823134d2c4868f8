/-
  Layer 7 (batch): which texts are keys, as series.Of tells; which rows and batches may be, of no program.
-/
import Derived.Test.YtahmcelkfbigkaaDoorSeriesOf
import Derived.Test.YtahmcelkfbigkaaDoorBatchBytes
namespace Go.Proofs.YtahmcelkfbigkaaDoor
open Go.ChangeShapes Go.WideShapes Go.ChangeAt Go.RowKit
set_option linter.unusedVariables false

def keyOk (s : ByteArray) : Bool := decide (s.size ≤ 294) && (match parseF (s ++ restB) with | .good ev => riseB ev.tags | .bad _ => false)
def OfGood (w : World) (e : Ending) (w' : World) : Prop := ∃ n A l c, e = .returned (.tuple #[evVal n A l c 0 0 0, .nilIface]) ∧ Below w.heap.size w w'
def OfBad (w : World) (e : Ending) (w' : World) : Prop := e = .returned (.tuple #[evZero, .iface 32 (.int .i64 2)]) ∧ Below w.heap.size w w'
theorem parse_len {s : ByteArray} {ev : Ev} (h : parseF s = .good ev) : ev.tags.length ≤ 6 := by
  have hm := (print_parse h).1
  unfold mayB at hm
  simp only [Bool.and_eq_true, decide_eq_true_eq] at hm
  exact hm.1.1.2
theorem seriesOfGood (s : ByteArray) (w : World) (hL : Laid w) (h : keyOk s = true) : Calls Tryd.prog 45 #[.string s] w (OfGood w) := by
  unfold keyOk at h
  rw [Bool.and_eq_true, decide_eq_true_eq] at h
  obtain ⟨h1, h2⟩ := h
  cases hp : parseF (s ++ restB) with
  | bad p => rw [hp] at h2; cases h2
  | good ev =>
    rw [hp] at h2
    refine (seriesOf s ev w hL h1 hp (parse_len hp) true h2).mono ?_
    rintro e w' ⟨A, c, rfl, _, hb⟩
    exact ⟨_, _, _, _, rfl, hb⟩
theorem ofLarge (s : ByteArray) (w : World) (hs : 300 < s.size) (hm : s.size ≤ 9223372036854775807) : Calls Tryd.prog 45 #[.string s] w (OfBad w) := by
  have e1 : decide ((300 : Int) < s.size) = true := decide_eq_true (by omega)
  go_enter Tryd.func45, Tryd.ntmps45
  go_wp2_with fail
  refine bodyPost_ret (v := .tuple #[evZero, .iface 32 (.int .i64 2)]) (by simp [results, Tryd.results45, go_sem, evVal, evZero]) rfl ?_
  exact ⟨rfl, (Below.refl _ _).alloc (Nat.le_refl _) _⟩
set_option maxHeartbeats 400000 in
set_option maxRecDepth 100000 in
theorem ofLonger (s : ByteArray) (w : World) (hs : s.size ≤ 300) (hm : 294 < s.size) : Calls Tryd.prog 45 #[.string s] w (OfBad w) := by
  have e1 : decide ((300 : Int) < s.size) = false := decide_eq_false (by omega)
  have hsz : 300 < (s ++ restB).size ∧ (s ++ restB).size ≤ 9223372036854775807 := by rw [ByteArray.size_append]; exact ⟨by show 300 < s.size + 6; omega, by show s.size + 6 ≤ _; omega⟩
  have C := Lib.hid (fun w' => parseLarge (s ++ restB) w' hsz.1 hsz.2)
  clear hsz
  unfold restB at C
  have HE0 := Lib.hid (heap_alloc_new w (.cells #[.string ⟨#[]⟩, .slice none 0 0, .int .i64 0, .int .i64 0, .int .i64 0] 71))
  go_enter Tryd.func45, Tryd.ntmps45
  go_wp2_with fail
  refine (C.out _).mono ?_
  rintro e w1 ⟨rfl, hb⟩
  have E1 : EvB w1 w.heap.size ⟨#[]⟩ none 0 0 0 0 0 := by unfold EvB; rw [hb.block _ (by simp)]; exact HE0.out
  have B1 := Lib.hid ((below_new w _).trans (hb.mono (by simp)))
  have HE1 := Lib.hid E1
  have hz1 := lt_of_block E1
  unfold evZero evVal
  clear hb E1 C HE0
  have E2 := HE1.out
  have c0 := E2.c0
  have c1 := E2.c1
  have c2 := E2.c2
  have c3 := E2.c3
  have c4 := E2.c4
  have f0 := E2.f 0
  have f1 := E2.f 1
  have f2 := E2.f 2
  have f3 := E2.f 3
  have f4 := E2.f 4
  clear E2
  go_wp2_with fail
  refine bodyPost_ret (v := .tuple #[evZero, .iface 32 (.int .i64 2)]) (by simp [results, Tryd.results45, go_sem, evVal, evZero, c0, c1, c2, c3, c4, hz1]) rfl ?_
  exact ⟨rfl, below_of_grown (grown_alloc (grown_set5 (grown_of B1.out) (Nat.le_refl _) _ _ _ _ _) _)⟩
set_option maxHeartbeats 400000 in
set_option maxRecDepth 100000 in
theorem ofParse (s : ByteArray) (p : Nat) (w : World) (hL : Laid w) (hs : s.size ≤ 294) (hp : parseF (s ++ restB) = .bad p) : Calls Tryd.prog 45 #[.string s] w (OfBad w) := by
  have e1 : decide ((300 : Int) < s.size) = false := decide_eq_false (by omega)
  have hsz : (s ++ restB).size ≤ 300 := by rw [ByteArray.size_append]; show s.size + 6 ≤ 300; omega
  have C := Lib.hid (fun w' h => lineParse (s ++ restB) w' h hsz)
  rw [hp] at C
  have HL := Lib.hid (hL.alloc (.cells #[.string ⟨#[]⟩, .slice none 0 0, .int .i64 0, .int .i64 0, .int .i64 0] 71))
  clear hsz hp hL
  unfold restB at C
  have HE0 := Lib.hid (heap_alloc_new w (.cells #[.string ⟨#[]⟩, .slice none 0 0, .int .i64 0, .int .i64 0, .int .i64 0] 71))
  go_enter Tryd.func45, Tryd.ntmps45
  go_wp2_with fail
  refine (C.out _ HL.out).mono ?_
  rintro e w1 ⟨N, rfl, _, hb⟩
  have E1 : EvB w1 w.heap.size ⟨#[]⟩ none 0 0 0 0 0 := by unfold EvB; rw [hb.block _ (by simp)]; exact HE0.out
  have B1 := Lib.hid ((below_new w _).trans (hb.mono (by simp)))
  have HE1 := Lib.hid E1
  have hz1 := lt_of_block E1
  unfold evZero evVal
  clear hb E1 C HE0 HL
  have E2 := HE1.out
  have c0 := E2.c0
  have c1 := E2.c1
  have c2 := E2.c2
  have c3 := E2.c3
  have c4 := E2.c4
  have f0 := E2.f 0
  have f1 := E2.f 1
  have f2 := E2.f 2
  have f3 := E2.f 3
  have f4 := E2.f 4
  clear E2
  go_wp2_with fail
  refine bodyPost_ret (v := .tuple #[evZero, .iface 32 (.int .i64 2)]) (by simp [results, Tryd.results45, go_sem, evVal, evZero, c0, c1, c2, c3, c4, hz1]) rfl ?_
  exact ⟨rfl, below_of_grown (grown_alloc (grown_set5 (grown_of B1.out) (Nat.le_refl _) _ _ _ _ _) _)⟩
theorem seriesOfBad (s : ByteArray) (w : World) (hL : Laid w) (hm : s.size ≤ 9223372036854775807) (h : keyOk s = false) : Calls Tryd.prog 45 #[.string s] w (OfBad w) := by
  rcases Nat.lt_or_ge 300 s.size with h1 | h1
  · exact ofLarge s w h1 hm
  rcases Nat.lt_or_ge 294 s.size with h2 | h2
  · exact ofLonger s w h1 h2
  unfold keyOk at h
  rw [show decide (s.size ≤ 294) = true from decide_eq_true h2, Bool.true_and] at h
  cases hp : parseF (s ++ restB) with
  | bad p => exact ofParse s p w hL h2 hp
  | good ev =>
    rw [hp] at h
    exact seriesOf s ev w hL h2 hp (parse_len hp) false h
theorem key_size {s : ByteArray} (h : keyOk s = true) : s.size ≤ 294 := by
  unfold keyOk at h
  rw [Bool.and_eq_true, decide_eq_true_eq] at h
  exact h.1

def bkOk (r : Rw) : Bool := if r.kind = 3 then decide (1 ≤ r.bks.length) && decide (r.bks.length ≤ 65) && (r.bks[r.bks.length - 1]?.getD 0 != 0) else r.bks.length == 0
def rowOk (r : Rw) : Bool := decide (1 ≤ r.kind) && decide (r.kind ≤ 3) && decide (1 ≤ r.many) && decide (r.least ≤ r.most) && bkOk r && keyOk r.key
def riseR (a b : Rw) : Bool := if a.key = b.key then decide (a.kind < b.kind) else decide (a.key.data.toList < b.key.data.toList)
def stepOk (rows : List Rw) (i : Nat) : Bool :=
  match rows[i]? with
  | none => true
  | some r => rowOk r && (match i with | 0 => true | j + 1 => (match rows[j]? with | none => true | some a => riseR a r))
def rowsOk (rows : List Rw) : Bool := decide (rows.length ≤ 200) && (List.range rows.length).all (stepOk rows)
def mayOk (b : Bt) : Bool := decide (0 ≤ b.seq) && decide (b.seq ≤ 2147483647) && decide (0 ≤ b.start) && decide (b.start ≤ 1099511627776) && rowsOk b.rows
theorem rowsOk_true {rows : List Rw} (hl : rows.length ≤ 200) (h : ∀ j, j < rows.length → stepOk rows j = true) : rowsOk rows = true := by
  unfold rowsOk
  rw [decide_eq_true hl, Bool.true_and, List.all_eq_true]
  exact fun j hj => h j (List.mem_range.1 hj)
theorem rowsOk_false {rows : List Rw} {j : Nat} (hj : j < rows.length) (h : stepOk rows j = false) : rowsOk rows = false := by
  unfold rowsOk
  rw [Bool.and_eq_false_iff]
  refine .inr ?_
  rw [List.all_eq_false]
  exact ⟨j, List.mem_range.2 hj, by rw [h]; simp⟩
theorem rowsOk_many {rows : List Rw} (hl : ¬ rows.length ≤ 200) : rowsOk rows = false := by
  unfold rowsOk
  rw [decide_eq_false hl, Bool.false_and]
theorem step_row {rows : List Rw} {i : Nat} {r : Rw} (hi : rows[i]? = some r) (h : rowOk r = false) : stepOk rows i = false := by
  unfold stepOk
  rw [hi]
  simp only [h, Bool.false_and]
theorem step_first {rows : List Rw} {r : Rw} (hi : rows[0]? = some r) (h : rowOk r = true) : stepOk rows 0 = true := by
  unfold stepOk
  rw [hi]
  simp only [h, Bool.true_and]
theorem step_next {rows : List Rw} {j : Nat} {a r : Rw} (hj : rows[j]? = some a) (hi : rows[j + 1]? = some r) (h : rowOk r = true) : stepOk rows (j + 1) = riseR a r := by
  unfold stepOk
  rw [hi]
  simp only [h, Bool.true_and, hj]
theorem rowsOk_row {rows : List Rw} (h : rowsOk rows = true) : rows.length ≤ 200 ∧ ∀ r ∈ rows, rowOk r = true := by
  unfold rowsOk at h
  rw [Bool.and_eq_true, decide_eq_true_eq, List.all_eq_true] at h
  refine ⟨h.1, fun r hr => ?_⟩
  obtain ⟨i, hi, rfl⟩ := List.mem_iff_getElem.1 hr
  have := h.2 i (List.mem_range.2 hi)
  unfold stepOk at this
  rw [List.getElem?_eq_getElem hi] at this
  simp only [Bool.and_eq_true] at this
  exact this.1
theorem rowOk_parts {r : Rw} (h : rowOk r = true) : 1 ≤ r.kind ∧ r.kind ≤ 3 ∧ 1 ≤ r.many ∧ r.least ≤ r.most ∧ bkOk r = true ∧ keyOk r.key = true := by
  unfold rowOk at h
  simp only [Bool.and_eq_true, decide_eq_true_eq] at h
  exact ⟨h.1.1.1.1.1, h.1.1.1.1.2, h.1.1.1.2, h.1.1.2, h.1.2, h.2⟩
theorem bkOk_len {r : Rw} (h : bkOk r = true) : r.bks.length ≤ 65 := by
  unfold bkOk at h
  split at h
  · simp only [Bool.and_eq_true, decide_eq_true_eq] at h; exact h.1.2
  · rw [beq_iff_eq] at h; omega
theorem rowOk_in {r : Rw} (hf : FitR r) (h : rowOk r = true) : InR r := by
  obtain ⟨h1, h2, _, _, h5, h6⟩ := rowOk_parts h
  have := key_size h6
  exact ⟨hf, by omega, by omega, h2, bkOk_len h5⟩
theorem mayOk_parts {b : Bt} (h : mayOk b = true) : 0 ≤ b.seq ∧ b.seq ≤ 2147483647 ∧ 0 ≤ b.start ∧ b.start ≤ 1099511627776 ∧ rowsOk b.rows = true := by
  unfold mayOk at h
  simp only [Bool.and_eq_true, decide_eq_true_eq] at h
  exact ⟨h.1.1.1.1, h.1.1.1.2, h.1.1.2, h.1.2, h.2⟩
theorem mayOk_in {b : Bt} (hf : ∀ r ∈ b.rows, FitR r) (h : mayOk b = true) : InB b := by
  obtain ⟨h1, h2, h3, h4, h5⟩ := mayOk_parts h
  obtain ⟨h6, h7⟩ := rowsOk_row h5
  exact ⟨h1, h2, h3, h4, h6, fun r hr => rowOk_in (hf r hr) (h7 r hr)⟩
/-- What bytes are those of, if of any. -/
def getF (l : List UInt8) : Option Bt := if (gBatch l).2.bey = false ∧ rsEnd l (gBatch l).2.r = none ∧ mayOk (gBatch l).1 = true then some (gBatch l).1 else none
theorem getF_put {b : Bt} (hf : ∀ r ∈ b.rows, FitR r) (h : mayOk b = true) : getF (putL b) = some b := by
  obtain ⟨g, e, h1, h2⟩ := get_put (mayOk_in hf h)
  unfold getF
  rw [e, if_pos ⟨h1, h2, h⟩]
theorem getF_some {l : List UInt8} {b : Bt} (h : getF l = some b) : mayOk b = true ∧ putL b = l ∧ (∀ r ∈ b.rows, FitR r) ∧ (gBatch l).2.bey = false ∧ rsEnd l (gBatch l).2.r = none ∧ (gBatch l).1 = b := by
  unfold getF at h
  split at h
  · rename_i hc
    cases h
    exact ⟨hc.2.2, put_get hc.1 hc.2.1, (batch_fit l).1, hc.1, hc.2.1, rfl⟩
  · cases h
end Go.Proofs.YtahmcelkfbigkaaDoor
