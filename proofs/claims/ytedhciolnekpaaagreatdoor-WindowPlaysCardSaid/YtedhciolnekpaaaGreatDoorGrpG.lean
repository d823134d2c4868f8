/-
  Layer 5 (series): series.Canon: an event with its tags rising, or the errors ErrArg and ErrTwice.
  Layer 5 (series): series.Of: what a key is of, or the error ErrForm.
  Layer 7 (batch): number, whole, overNumber, rowBytes: a row's bytes.
  Layer 7 (batch): which texts are keys, as series.Of tells; which rows and batches may be, of no program.
-/
import Derived.Test.YtedhciolnekpaaaGreatDoorGrpF
import Derived.Test.YtedhciolnekpaaaGreatDoorQLineParse
import Derived.Test.YtedhciolnekpaaaGreatDoorGrpA
import Derived.Deep.LoopGhost
namespace Go.Proofs.YtedhciolnekpaaaGreatDoor
open Go.ChangeShapes Go.WideShapes Go.ChangeAt Go.RowKit
set_option linter.unusedVariables false

/-- Where Canon stands: the event in a block of its own, and the result's block. -/
structure Cn (w : World) (n : ByteArray) (A : Option Addr) (l c : Nat) (k v t : Int) (wr : World) : Prop where
  below : Below w.heap.size w wr
  ev : EvB wr w.heap.size n A l c k v t
  res : EvB wr (w.heap.size + 1) ⟨#[]⟩ none 0 0 0 0 0
section
variable {w wr w' : World} {n : ByteArray} {A : Option Addr} {l c : Nat} {k v t : Int}
theorem Cn.size (h : Cn w n A l c k v t wr) : w.heap.size + 1 < wr.heap.size := lt_of_block h.res
theorem Cn.on (h : Cn w n A l c k v t wr) (b : Below wr.heap.size wr w') : Cn w n A l c k v t w' :=
  ⟨h.below.trans (b.mono h.below.size), by unfold EvB; rw [b.block _ (lt_of_block h.ev)]; exact h.ev, by unfold EvB; rw [b.block _ (lt_of_block h.res)]; exact h.res⟩
theorem Cn.grown (h : Cn w n A l c k v t wr) {r : Option Nat} (g : wr.grownBy w' r) (hr : ∀ b, r = some b → w.heap.size + 2 ≤ b) : Cn w n A l c k v t w' := by
  have n0 : some w.heap.size ≠ r := fun e => by have := hr _ e.symm; omega
  have n1 : some (w.heap.size + 1) ≠ r := fun e => by have := hr _ e.symm; omega
  refine ⟨⟨g.os.trans h.below.os, g.tape.trans h.below.tape, g.output.trans h.below.output, Nat.le_trans h.below.size g.size, fun b hb => ?_⟩, ?_, ?_⟩
  · rw [g.block b (by have := h.size; omega) (fun e => by have := hr b e.symm; omega)]
    exact h.below.block b hb
  · unfold EvB; rw [g.block _ (lt_of_block h.ev) n0]; exact h.ev
  · unfold EvB; rw [g.block _ (lt_of_block h.res) n1]; exact h.res
theorem Cn.put0 (h : Cn w n A l c k v t wr) (x : ByteArray) : Cn w x A l c k v t (wr.setCell ⟨w.heap.size, 0, none⟩ (.string x)) :=
  ⟨h.below.setCell (Nat.le_refl _) _, h.ev.set0 x, by unfold EvB; rw [heap_set_other (by show w.heap.size + 1 ≠ w.heap.size; omega)]; exact h.res⟩
theorem Cn.put1 (h : Cn w n A l c k v t wr) (A' : Option Addr) (l' c' : Nat) : Cn w n A' l' c' k v t (wr.setCell ⟨w.heap.size, 1, none⟩ (.slice A' l' c')) :=
  ⟨h.below.setCell (Nat.le_refl _) _, h.ev.set1 A' l' c', by unfold EvB; rw [heap_set_other (by show w.heap.size + 1 ≠ w.heap.size; omega)]; exact h.res⟩
theorem Cn.start (w : World) (n : ByteArray) (A : Option Addr) (l c : Nat) (k v t : Int) :
    Cn w n A l c k v t ((w.alloc (.cells #[.string n, .slice A l c, .int .i64 k, .int .i64 v, .int .i64 t] 78)).alloc (.cells #[.string ⟨#[]⟩, .slice none 0 0, .int .i64 0, .int .i64 0, .int .i64 0] 78)) := by
  refine ⟨((Below.refl _ _).alloc (Nat.le_refl _) _).alloc (by simp) _, ?_, ?_⟩
  · unfold EvB
    rw [(World.grownBy_alloc _ _ none).block w.heap.size (by simp) (by simp)]
    exact heap_alloc_new w _
  · have := heap_alloc_new (w.alloc (.cells #[.string n, .slice A l c, .int .i64 k, .int .i64 v, .int .i64 t] 78)) (.cells #[.string ⟨#[]⟩, .slice none 0 0, .int .i64 0, .int .i64 0, .int .i64 0] 78)
    rw [World.size_alloc] at this
    exact this
end

theorem RdT.set {w : World} {A : Option Addr} {ts : Tags} (h : RdT w A ts) (a : Addr) (x : Value) (hne : ∀ d, A = some d → d.block ≠ a.block) : RdT (w.setCell a x) A ts := by
  rcases h with h | ⟨b, o, e, hc⟩
  · exact .inl h
  · have hb : b ≠ a.block := hne _ e
    refine .inr ⟨b, o, e, fun i x y hi => ⟨?_, ?_⟩⟩
    · exact (World.cell?_of_block (heap_set_other hb)).trans (hc i x y hi).1
    · exact (World.cell?_of_block (heap_set_other hb)).trans (hc i x y hi).2
theorem RdT.set5 {w : World} {A : Option Addr} {ts : Tags} (h : RdT w A ts) {g : Nat} (hne : ∀ d, A = some d → d.block ≠ g) (v0 v1 v2 v3 v4 : Value) :
    RdT (((((w.setCell ⟨g, 0, none⟩ v0).setCell ⟨g, 1, none⟩ v1).setCell ⟨g, 2, none⟩ v2).setCell ⟨g, 3, none⟩ v3).setCell ⟨g, 4, none⟩ v4) A ts :=
  ((((h.set _ _ hne).set _ _ hne).set _ _ hne).set _ _ hne).set _ _ hne

def CanonBad (w : World) (code : Int) (e : Ending) (w' : World) : Prop := e = .returned (.tuple #[evZero, .iface 33 (.int .i64 code)]) ∧ Below w.heap.size w w'
def CanonGood (w : World) (n : ByteArray) (k v t : Int) (ts : Tags) (e : Ending) (w' : World) : Prop :=
  ∃ A c, e = .returned (.tuple #[evVal n A ts.length c k v t, .nilIface]) ∧ RdT w' A ts ∧ Below w.heap.size w w'

def CanonPost (w : World) (n : ByteArray) (k v t : Int) (ts : Tags) (r : Bool) (e : Ending) (w' : World) : Prop :=
  match r with
  | true => CanonGood w n k v t (sortT ts) e w'
  | false => CanonBad w 5 e w'

end Go.Proofs.YtedhciolnekpaaaGreatDoor
namespace Go.Proofs.YtedhciolnekpaaaGreatDoor
open Go.ChangeShapes Go.WideShapes Go.ChangeAt Go.RowKit
set_option linter.unusedVariables false

def restB : ByteArray := ⟨#[32, 99, 32, 48, 32, 48]⟩
def OfPost (w : World) (n : ByteArray) (ts : Tags) (r : Bool) (e : Ending) (w' : World) : Prop :=
  match r with
  | true => CanonGood w n 0 0 0 ts e w'
  | false => CanonBad w 2 e w'

set_option maxHeartbeats 1000000 in
set_option maxRecDepth 100000 in
theorem seriesOf (s : ByteArray) (ev : Ev) (w : World) (hL : Laid w) (hs : s.size ≤ 294) (hp : parseF (s ++ restB) = .good ev) (h6 : ev.tags.length ≤ 6) (r : Bool) (hri : riseB ev.tags = r) :
    Calls Tryz.prog 39 #[.string s] w (OfPost w ev.name ev.tags r) := by
  have hsz : (s ++ restB).size ≤ 300 := by rw [ByteArray.size_append]; show s.size + 6 ≤ 300; omega
  have e1 : decide ((300 : Int) < s.size) = false := decide_eq_false (by omega)
  have C := Lib.hid (fun w' h => lineParse (s ++ restB) w' h hsz)
  rw [hp] at C
  have HL := Lib.hid (hL.alloc (.cells #[.string ⟨#[]⟩, .slice none 0 0, .int .i64 0, .int .i64 0, .int .i64 0] 78))
  have HRI := Lib.hid hri
  have hE0 : EvB (w.alloc (.cells #[.string ⟨#[]⟩, .slice none 0 0, .int .i64 0, .int .i64 0, .int .i64 0] 78)) w.heap.size ⟨#[]⟩ none 0 0 0 0 0 := heap_alloc_new w _
  have HE0 := Lib.hid hE0
  clear hp hri hE0 hL
  unfold restB at C hsz
  go_enter Tryz.func39, Tryz.ntmps39
  go_wp2_with fail
  refine (C.out _ HL.out).mono ?_
  rintro e w1 ⟨A, c, rfl, o1, hb⟩
  obtain ⟨n, ts, k, v, t⟩ := ev
  simp only at *
  unfold evVal
  have hE1 : EvB (w1.alloc (.cells #[.string n, .slice A ts.length c, .int .i64 k, .int .i64 v, .int .i64 t] 78)) w1.heap.size n A ts.length c k v t := heap_alloc_new w1 _
  have HE1 := Lib.hid hE1
  have HB := Lib.hid (((below_new w _).trans (hb.mono (by simp))).alloc (by have := hb.size; simp at this; omega) (.cells #[.string n, .slice A ts.length c, .int .i64 k, .int .i64 v, .int .i64 t] 78))
  have HR := Lib.hid (o1.rd.alloc (.cells #[.string n, .slice A ts.length c, .int .i64 k, .int .i64 v, .int .i64 t] 78))
  have HE2 := Lib.hid (show EvB (w1.alloc (.cells #[.string n, .slice A ts.length c, .int .i64 k, .int .i64 v, .int .i64 t] 78)) w.heap.size ⟨#[]⟩ none 0 0 0 0 0 by
    have h1 : EvB w1 w.heap.size ⟨#[]⟩ none 0 0 0 0 0 := by unfold EvB; rw [hb.block _ (lt_of_block HE0.out)]; exact HE0.out
    unfold EvB; rw [(World.grownBy_alloc _ _ none).block _ (lt_of_block h1) (by simp)]; exact h1)
  have HO := Lib.hid (o1.alloc (.cells #[.string n, .slice A ts.length c, .int .i64 k, .int .i64 v, .int .i64 t] 78))
  have c1 := hE1.c1
  have CR := Lib.hid (seriesRise A c ts _ HR.out (by omega))
  rw [HRI.out] at CR
  clear hE1 hb o1 HE0 C HL HRI
  cases r with
  | false =>
    go_wp2_with fail
    refine CR.out.mono ?_
    rintro e w2 ⟨rfl, hb⟩
    have E2 := Lib.hid (show EvB w2 w.heap.size ⟨#[]⟩ none 0 0 0 0 0 by unfold EvB; rw [hb.block _ (lt_of_block HE2.out)]; exact HE2.out)
    have B2 := Lib.hid (HB.out.trans (hb.mono HB.out.size))
    clear hb HB HE1 HE2 HR HO CR c1
    have f0 := E2.out.f 0
    have f1 := E2.out.f 1
    have f2 := E2.out.f 2
    have f3 := E2.out.f 3
    have f4 := E2.out.f 4
    have c0 := E2.out.c0
    have c1 := E2.out.c1
    have c2 := E2.out.c2
    have c3 := E2.out.c3
    have c4 := E2.out.c4
    go_wp2_with fail
    refine bodyPost_ret (v := .tuple #[evZero, .iface 33 (.int .i64 2)]) (by simp [results, Tryz.results39, go_sem, evVal, evZero, c0, c1, c2, c3, c4]) rfl ?_
    exact ⟨rfl, below_of_grown (grown_set5 (grown_of B2.out) (Nat.le_refl _) _ _ _ _ _)⟩
  | true =>
    go_wp2_with fail
    refine CR.out.mono ?_
    rintro e w2 ⟨rfl, hb⟩
    have E2 := Lib.hid (show EvB w2 w.heap.size ⟨#[]⟩ none 0 0 0 0 0 by unfold EvB; rw [hb.block _ (lt_of_block HE2.out)]; exact HE2.out)
    have E3 := Lib.hid (show EvB w2 w1.heap.size n A ts.length c k v t by unfold EvB; rw [hb.block _ (lt_of_block HE1.out)]; exact HE1.out)
    have B2 := Lib.hid (HB.out.trans (hb.mono HB.out.size))
    have O2 := Lib.hid (HO.out.below hb)
    clear hb HB HE1 HE2 HR HO CR c1
    have f0 := E2.out.f 0
    have f1 := E2.out.f 1
    have f2 := E2.out.f 2
    have f3 := E2.out.f 3
    have f4 := E2.out.f 4
    have c0 := E2.out.c0
    have c1 := E2.out.c1
    have c2 := E2.out.c2
    have c3 := E2.out.c3
    have c4 := E2.out.c4
    have d0 := E3.out.c0
    have d1 := E3.out.c1
    go_wp2_with fail
    refine bodyPost_ret (v := .tuple #[evVal n A ts.length c 0 0 0, .nilIface]) (by simp [results, Tryz.results39, go_sem, evVal, c0, c1, c2, c3, c4]) rfl ?_
    refine ⟨A, c, rfl, ?_, below_of_grown (grown_set5 (grown_of B2.out) (Nat.le_refl _) _ _ _ _ _)⟩
    exact O2.out.rd.set5 (fun d e => by have := (World.ownsRow.lt O2.out d.block (by rw [e]; rfl)).1; simp at this; omega) _ _ _ _ _
end Go.Proofs.YtedhciolnekpaaaGreatDoor
namespace Go.Proofs.YtedhciolnekpaaaGreatDoor
open Go.ChangeShapes Go.WideShapes Go.ChangeAt Go.RowKit
set_option linter.unusedVariables false

theorem RowB.keep {w w' : World} {g N : Nat} {r : Rw} {B : Option Addr} {c : Nat} (h : RowB w g r B c) (hb : Below N w w') (hg : g < N) : RowB w' g r B c := ⟨by rw [hb.block _ hg]; exact h.blk⟩
theorem BtB.keep {w w' : World} {g N : Nat} {s t : Int} {A : Option Addr} {n c : Nat} (h : BtB w g s t A n c) (hb : Below N w w') (hg : g < N) : BtB w' g s t A n c := ⟨by rw [hb.block _ hg]; exact h.blk⟩

theorem bksL_len : ∀ l : List Nat, (∀ n ∈ l, n < 18446744073709551616) → (bksL l).length ≤ 10 * l.length
  | [], _ => by simp [bksL]
  | n :: l, h => by
    have h1 := bksL_len l (fun m hm => h m (by simp [hm]))
    have h2 := enc_length n (h n (by simp))
    have e : bksL (n :: l) = enc n ++ bksL l := by simp [bksL]
    rw [e, List.length_append, List.length_cons]
    omega
theorem encT_len (s : ByteArray) (hs : s.size ≤ 5000) : (encT s).length ≤ 10 + s.size := by
  have h1 := enc_length s.size (by omega)
  have : s.data.toList.length = s.size := by simp
  unfold encT
  rw [List.length_append]
  omega
theorem rowHead_len {r : Rw} (hf : FitR r) (hs : r.key.size ≤ 2000) (hk0 : 0 ≤ r.kind) (hk : r.kind ≤ 3) (hl : r.bks.length ≤ 1000) : (rowHead r).length ≤ 80 + r.key.size := by
  have h1 := encT_len r.key (by omega)
  have h2 := enc_length r.kind.toNat (by omega)
  have h3 := enc_length r.many hf.many
  have h4 := enc_length _ (fold_lt hf.sum0 hf.sum1)
  have h5 := enc_length _ (fold_lt hf.least0 hf.least1)
  have h6 := enc_length _ (fold_lt hf.most0 hf.most1)
  have h7 := enc_length (overN r.over) (by have := overN_lt r.over; omega)
  have h8 := enc_length r.bks.length (by omega)
  unfold rowHead
  simp only [List.length_append]
  omega
theorem rowL_len {r : Rw} (hf : FitR r) (hs : r.key.size ≤ 2000) (hk0 : 0 ≤ r.kind) (hk : r.kind ≤ 3) (hl : r.bks.length ≤ 1000) : (rowL r).length ≤ 80 + r.key.size + 10 * r.bks.length := by
  have h1 := rowHead_len hf hs hk0 hk hl
  have h2 := bksL_len r.bks hf.bks
  unfold rowL
  rw [List.length_append]
  omega

/-- Where the writing of a row stands. -/
structure Rb (w : World) (r : Rw) (B : Option Addr) (c : Nat) (L : List UInt8) (v : Value) (wr : World) : Prop where
  own : OB wr (w.heap.size + 1) v L
  row : RowB wr w.heap.size r B c
  below : Below w.heap.size w wr
theorem Rb.size {w wr : World} {r : Rw} {B : Option Addr} {c : Nat} {L : List UInt8} {v : Value} (h : Rb w r B c L v wr) : w.heap.size + 1 ≤ wr.heap.size := h.row.lt
theorem Rb.on {w wr w' : World} {r : Rw} {B : Option Addr} {c : Nat} {L L' : List UInt8} {v v' : Value} (h : Rb w r B c L v wr) (o : OB w' (w.heap.size + 1) v' L') (b : Below (w.heap.size + 1) wr w') : Rb w r B c L' v' w' :=
  ⟨o, h.row.keep b (Nat.lt_succ_self _), h.below.trans (b.mono (Nat.le_succ _))⟩

end Go.Proofs.YtedhciolnekpaaaGreatDoor
namespace Go.Proofs.YtedhciolnekpaaaGreatDoor
open Go.ChangeShapes Go.WideShapes Go.ChangeAt Go.RowKit
set_option linter.unusedVariables false

def keyOk (s : ByteArray) : Bool := decide (s.size ≤ 294) && (match parseF (s ++ restB) with | .good ev => riseB ev.tags | .bad _ => false)
def OfGood (w : World) (e : Ending) (w' : World) : Prop := ∃ n A l c, e = .returned (.tuple #[evVal n A l c 0 0 0, .nilIface]) ∧ Below w.heap.size w w'
def OfBad (w : World) (e : Ending) (w' : World) : Prop := e = .returned (.tuple #[evZero, .iface 33 (.int .i64 2)]) ∧ Below w.heap.size w w'
theorem parse_len {s : ByteArray} {ev : Ev} (h : parseF s = .good ev) : ev.tags.length ≤ 6 := by
  have hm := (print_parse h).1
  unfold mayB at hm
  simp only [Bool.and_eq_true, decide_eq_true_eq] at hm
  exact hm.1.1.2
theorem seriesOfGood (s : ByteArray) (w : World) (hL : Laid w) (h : keyOk s = true) : Calls Tryz.prog 39 #[.string s] w (OfGood w) := by
  unfold keyOk at h
  rw [Bool.and_eq_true, decide_eq_true_eq] at h
  obtain ⟨h1, h2⟩ := h
  cases hp : parseF (s ++ restB) with
  | bad p => rw [hp] at h2; cases h2
  | good ev =>
    rw [hp] at h2
    refine (seriesOf s ev w hL h1 hp (parse_len hp) true h2).mono ?_
    rintro e w' ⟨A, c, rfl, _, hb⟩
    exact ⟨_, _, _, _, rfl, hb⟩
theorem ofLarge (s : ByteArray) (w : World) (hs : 300 < s.size) (hm : s.size ≤ 9223372036854775807) : Calls Tryz.prog 39 #[.string s] w (OfBad w) := by
  have e1 : decide ((300 : Int) < s.size) = true := decide_eq_true (by omega)
  go_enter Tryz.func39, Tryz.ntmps39
  go_wp2_with fail
  refine bodyPost_ret (v := .tuple #[evZero, .iface 33 (.int .i64 2)]) (by simp [results, Tryz.results39, go_sem, evVal, evZero]) rfl ?_
  exact ⟨rfl, (Below.refl _ _).alloc (Nat.le_refl _) _⟩
set_option maxHeartbeats 400000 in
set_option maxRecDepth 100000 in
theorem ofLonger (s : ByteArray) (w : World) (hs : s.size ≤ 300) (hm : 294 < s.size) : Calls Tryz.prog 39 #[.string s] w (OfBad w) := by
  have e1 : decide ((300 : Int) < s.size) = false := decide_eq_false (by omega)
  have hsz : 300 < (s ++ restB).size ∧ (s ++ restB).size ≤ 9223372036854775807 := by rw [ByteArray.size_append]; exact ⟨by show 300 < s.size + 6; omega, by show s.size + 6 ≤ _; omega⟩
  have C := Lib.hid (fun w' => parseLarge (s ++ restB) w' hsz.1 hsz.2)
  clear hsz
  unfold restB at C
  have HE0 := Lib.hid (heap_alloc_new w (.cells #[.string ⟨#[]⟩, .slice none 0 0, .int .i64 0, .int .i64 0, .int .i64 0] 78))
  go_enter Tryz.func39, Tryz.ntmps39
  go_wp2_with fail
  refine (C.out _).mono ?_
  rintro e w1 ⟨rfl, hb⟩
  have E1 : EvB w1 w.heap.size ⟨#[]⟩ none 0 0 0 0 0 := by unfold EvB; rw [hb.block _ (by simp)]; exact HE0.out
  have B1 := Lib.hid ((below_new w _).trans (hb.mono (by simp)))
  have HE1 := Lib.hid E1
  have hz1 := lt_of_block E1
  unfold evZero evVal
  clear hb E1 C HE0
  have E2 := HE1.out
  have c0 := E2.c0
  have c1 := E2.c1
  have c2 := E2.c2
  have c3 := E2.c3
  have c4 := E2.c4
  have f0 := E2.f 0
  have f1 := E2.f 1
  have f2 := E2.f 2
  have f3 := E2.f 3
  have f4 := E2.f 4
  clear E2
  go_wp2_with fail
  refine bodyPost_ret (v := .tuple #[evZero, .iface 33 (.int .i64 2)]) (by simp [results, Tryz.results39, go_sem, evVal, evZero, c0, c1, c2, c3, c4, hz1]) rfl ?_
  exact ⟨rfl, below_of_grown (grown_alloc (grown_set5 (grown_of B1.out) (Nat.le_refl _) _ _ _ _ _) _)⟩
set_option maxHeartbeats 400000 in
set_option maxRecDepth 100000 in
theorem ofParse (s : ByteArray) (p : Nat) (w : World) (hL : Laid w) (hs : s.size ≤ 294) (hp : parseF (s ++ restB) = .bad p) : Calls Tryz.prog 39 #[.string s] w (OfBad w) := by
  have e1 : decide ((300 : Int) < s.size) = false := decide_eq_false (by omega)
  have hsz : (s ++ restB).size ≤ 300 := by rw [ByteArray.size_append]; show s.size + 6 ≤ 300; omega
  have C := Lib.hid (fun w' h => lineParse (s ++ restB) w' h hsz)
  rw [hp] at C
  have HL := Lib.hid (hL.alloc (.cells #[.string ⟨#[]⟩, .slice none 0 0, .int .i64 0, .int .i64 0, .int .i64 0] 78))
  clear hsz hp hL
  unfold restB at C
  have HE0 := Lib.hid (heap_alloc_new w (.cells #[.string ⟨#[]⟩, .slice none 0 0, .int .i64 0, .int .i64 0, .int .i64 0] 78))
  go_enter Tryz.func39, Tryz.ntmps39
  go_wp2_with fail
  refine (C.out _ HL.out).mono ?_
  rintro e w1 ⟨N, rfl, _, hb⟩
  have E1 : EvB w1 w.heap.size ⟨#[]⟩ none 0 0 0 0 0 := by unfold EvB; rw [hb.block _ (by simp)]; exact HE0.out
  have B1 := Lib.hid ((below_new w _).trans (hb.mono (by simp)))
  have HE1 := Lib.hid E1
  have hz1 := lt_of_block E1
  unfold evZero evVal
  clear hb E1 C HE0 HL
  have E2 := HE1.out
  have c0 := E2.c0
  have c1 := E2.c1
  have c2 := E2.c2
  have c3 := E2.c3
  have c4 := E2.c4
  have f0 := E2.f 0
  have f1 := E2.f 1
  have f2 := E2.f 2
  have f3 := E2.f 3
  have f4 := E2.f 4
  clear E2
  go_wp2_with fail
  refine bodyPost_ret (v := .tuple #[evZero, .iface 33 (.int .i64 2)]) (by simp [results, Tryz.results39, go_sem, evVal, evZero, c0, c1, c2, c3, c4, hz1]) rfl ?_
  exact ⟨rfl, below_of_grown (grown_alloc (grown_set5 (grown_of B1.out) (Nat.le_refl _) _ _ _ _ _) _)⟩
theorem seriesOfBad (s : ByteArray) (w : World) (hL : Laid w) (hm : s.size ≤ 9223372036854775807) (h : keyOk s = false) : Calls Tryz.prog 39 #[.string s] w (OfBad w) := by
  rcases Nat.lt_or_ge 300 s.size with h1 | h1
  · exact ofLarge s w h1 hm
  rcases Nat.lt_or_ge 294 s.size with h2 | h2
  · exact ofLonger s w h1 h2
  unfold keyOk at h
  rw [show decide (s.size ≤ 294) = true from decide_eq_true h2, Bool.true_and] at h
  cases hp : parseF (s ++ restB) with
  | bad p => exact ofParse s p w hL h2 hp
  | good ev =>
    rw [hp] at h
    exact seriesOf s ev w hL h2 hp (parse_len hp) false h
theorem key_size {s : ByteArray} (h : keyOk s = true) : s.size ≤ 294 := by
  unfold keyOk at h
  rw [Bool.and_eq_true, decide_eq_true_eq] at h
  exact h.1

def bkOk (r : Rw) : Bool := if r.kind = 3 then decide (1 ≤ r.bks.length) && decide (r.bks.length ≤ 65) && (r.bks[r.bks.length - 1]?.getD 0 != 0) else r.bks.length == 0
def rowOk (r : Rw) : Bool := decide (1 ≤ r.kind) && decide (r.kind ≤ 3) && decide (1 ≤ r.many) && decide (r.least ≤ r.most) && bkOk r && keyOk r.key
def riseR (a b : Rw) : Bool := if a.key = b.key then decide (a.kind < b.kind) else decide (a.key.data.toList < b.key.data.toList)
def stepOk (rows : List Rw) (i : Nat) : Bool :=
  match rows[i]? with
  | none => true
  | some r => rowOk r && (match i with | 0 => true | j + 1 => (match rows[j]? with | none => true | some a => riseR a r))
def rowsOk (rows : List Rw) : Bool := decide (rows.length ≤ 200) && (List.range rows.length).all (stepOk rows)
def mayOk (b : Bt) : Bool := decide (0 ≤ b.seq) && decide (b.seq ≤ 2147483647) && decide (0 ≤ b.start) && decide (b.start ≤ 1099511627776) && rowsOk b.rows
theorem rowsOk_true {rows : List Rw} (hl : rows.length ≤ 200) (h : ∀ j, j < rows.length → stepOk rows j = true) : rowsOk rows = true := by
  unfold rowsOk
  rw [decide_eq_true hl, Bool.true_and, List.all_eq_true]
  exact fun j hj => h j (List.mem_range.1 hj)
theorem rowsOk_false {rows : List Rw} {j : Nat} (hj : j < rows.length) (h : stepOk rows j = false) : rowsOk rows = false := by
  unfold rowsOk
  rw [Bool.and_eq_false_iff]
  refine .inr ?_
  rw [List.all_eq_false]
  exact ⟨j, List.mem_range.2 hj, by rw [h]; simp⟩
theorem rowsOk_many {rows : List Rw} (hl : ¬ rows.length ≤ 200) : rowsOk rows = false := by
  unfold rowsOk
  rw [decide_eq_false hl, Bool.false_and]
theorem step_row {rows : List Rw} {i : Nat} {r : Rw} (hi : rows[i]? = some r) (h : rowOk r = false) : stepOk rows i = false := by
  unfold stepOk
  rw [hi]
  simp only [h, Bool.false_and]
theorem step_first {rows : List Rw} {r : Rw} (hi : rows[0]? = some r) (h : rowOk r = true) : stepOk rows 0 = true := by
  unfold stepOk
  rw [hi]
  simp only [h, Bool.true_and]
theorem step_next {rows : List Rw} {j : Nat} {a r : Rw} (hj : rows[j]? = some a) (hi : rows[j + 1]? = some r) (h : rowOk r = true) : stepOk rows (j + 1) = riseR a r := by
  unfold stepOk
  rw [hi]
  simp only [h, Bool.true_and, hj]
theorem rowsOk_row {rows : List Rw} (h : rowsOk rows = true) : rows.length ≤ 200 ∧ ∀ r ∈ rows, rowOk r = true := by
  unfold rowsOk at h
  rw [Bool.and_eq_true, decide_eq_true_eq, List.all_eq_true] at h
  refine ⟨h.1, fun r hr => ?_⟩
  obtain ⟨i, hi, rfl⟩ := List.mem_iff_getElem.1 hr
  have := h.2 i (List.mem_range.2 hi)
  unfold stepOk at this
  rw [List.getElem?_eq_getElem hi] at this
  simp only [Bool.and_eq_true] at this
  exact this.1
theorem rowOk_parts {r : Rw} (h : rowOk r = true) : 1 ≤ r.kind ∧ r.kind ≤ 3 ∧ 1 ≤ r.many ∧ r.least ≤ r.most ∧ bkOk r = true ∧ keyOk r.key = true := by
  unfold rowOk at h
  simp only [Bool.and_eq_true, decide_eq_true_eq] at h
  exact ⟨h.1.1.1.1.1, h.1.1.1.1.2, h.1.1.1.2, h.1.1.2, h.1.2, h.2⟩
theorem bkOk_len {r : Rw} (h : bkOk r = true) : r.bks.length ≤ 65 := by
  unfold bkOk at h
  split at h
  · simp only [Bool.and_eq_true, decide_eq_true_eq] at h; exact h.1.2
  · rw [beq_iff_eq] at h; omega
theorem rowOk_in {r : Rw} (hf : FitR r) (h : rowOk r = true) : InR r := by
  obtain ⟨h1, h2, _, _, h5, h6⟩ := rowOk_parts h
  have := key_size h6
  exact ⟨hf, by omega, by omega, h2, bkOk_len h5⟩
theorem mayOk_parts {b : Bt} (h : mayOk b = true) : 0 ≤ b.seq ∧ b.seq ≤ 2147483647 ∧ 0 ≤ b.start ∧ b.start ≤ 1099511627776 ∧ rowsOk b.rows = true := by
  unfold mayOk at h
  simp only [Bool.and_eq_true, decide_eq_true_eq] at h
  exact ⟨h.1.1.1.1, h.1.1.1.2, h.1.1.2, h.1.2, h.2⟩
theorem mayOk_in {b : Bt} (hf : ∀ r ∈ b.rows, FitR r) (h : mayOk b = true) : InB b := by
  obtain ⟨h1, h2, h3, h4, h5⟩ := mayOk_parts h
  obtain ⟨h6, h7⟩ := rowsOk_row h5
  exact ⟨h1, h2, h3, h4, h6, fun r hr => rowOk_in (hf r hr) (h7 r hr)⟩
/-- What bytes are those of, if of any. -/
def getF (l : List UInt8) : Option Bt := if (gBatch l).2.bey = false ∧ rsEnd l (gBatch l).2.r = none ∧ mayOk (gBatch l).1 = true then some (gBatch l).1 else none
theorem getF_put {b : Bt} (hf : ∀ r ∈ b.rows, FitR r) (h : mayOk b = true) : getF (putL b) = some b := by
  obtain ⟨g, e, h1, h2⟩ := get_put (mayOk_in hf h)
  unfold getF
  rw [e, if_pos ⟨h1, h2, h⟩]
theorem getF_some {l : List UInt8} {b : Bt} (h : getF l = some b) : mayOk b = true ∧ putL b = l ∧ (∀ r ∈ b.rows, FitR r) ∧ (gBatch l).2.bey = false ∧ rsEnd l (gBatch l).2.r = none ∧ (gBatch l).1 = b := by
  unfold getF at h
  split at h
  · rename_i hc
    cases h
    exact ⟨hc.2.2, put_get hc.1 hc.2.1, (batch_fit l).1, hc.1, hc.2.1, rfl⟩
  · cases h
end Go.Proofs.YtedhciolnekpaaaGreatDoor
