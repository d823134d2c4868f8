/-
  A list of whole numbers of 64 bits that is handed in ([]int64), with their bounds; and from a place on.
  Layer 18 (tally): a row begins (Begin); the row of many values (Fold).
-/
import Derived.Test.YtedhciolnekpaaaGreatDoorGrpA
import Derived.Deep.SlicePairs
import Derived.Deep.Fields
import Derived.Test.YtedhciolnekpaaaGreatDoorGrpK
import Derived.Handy
namespace Go.Proofs.YtedhciolnekpaaaGreatDoor
open Go.ChangeShapes Go.WideShapes Go.ChangeAt Go.RowKit Go.Deep
set_option linter.unusedVariables false

/-- A slice of whole numbers, nil or not, that reads as this list. -/
structure RdV (w : World) (A : Option Addr) (cap : Nat) (l : List Int) : Prop where
  le : l.length ≤ cap
  nn : A = none → cap = 0
  rd : ∀ ad, A = some ad → ∀ (i : Nat) (x : Int), l[i]? = some x → w.cell? (ad.add i) = some (.int .i64 x)
section
variable {w w' : World} {A : Option Addr} {cap : Nat} {l : List Int}
theorem RdV.nil (w : World) : RdV w none 0 [] := ⟨Nat.le_refl _, fun _ => rfl, fun _ h => by cases h⟩
theorem RdV.below (h : RdV w A cap l) (hb : Below w.heap.size w w') : RdV w' A cap l :=
  ⟨h.le, h.nn, fun ad ha i c hc => by
    have h1 := h.rd ad ha i c hc
    have h2 := World.block_lt_of_cell? w _ h1
    rw [hb.cell h2]; exact h1⟩
theorem RdV.some_of (h : RdV w A cap l) (hl : 0 < l.length) : ∃ ad, A = some ad := by
  cases A with
  | none => have := h.nn rfl; have := h.le; omega
  | some ad => exact ⟨ad, rfl⟩
theorem infoV : (Tryz.prog.info? 2).map (fun i => (i.zero, i.size, i.bytes)) = some (some (.int .i64 0), 1, 8) := by kernel_rfl
theorem elemV : Tryz.prog.elem 48 = 2 := by kernel_rfl
theorem underV : Tryz.prog.underlying 48 = some (.slice (Tryz.prog.elem 48)) := by rw [elemV]; exact Tryz.underlying48
theorem vals_from (A : Option Addr) (cap : Nat) (l : List Int) (k : Nat) (hk : k ≤ l.length) (hle : l.length ≤ cap) (hnone : A = none → cap = 0) :
    ∃ A', (∀ w, (Instr.slice 48 (.slice A l.length cap) (some (.int .i64 (k : Int))) none none).run Tryz.prog w = .ok (.slice A' (l.drop k).length (cap - k)) w) ∧
      ∀ w, RdV w A cap l → RdV w A' (cap - k) (l.drop k) := by
  refine ⟨if cap = k then A else A.map (·.add k), fun w => ?_, fun w h => ?_⟩
  · obtain ⟨i, hi, hz0, hz1, hz2⟩ := info_parts infoV
    rw [run_slice_l w 48 A l.length cap underV _ _ (by omega) (by omega)]
    have hs : (sizeOf (Tryz.prog.elem 48)).run Tryz.prog w = .ok 1 w := by
      rw [elemV]
      simp [sizeOf, typeInfo, hi, hz1, Result.andThen]
    rw [hs]
    simp [Result.andThen, sliced]
  · refine ⟨by rw [List.length_drop]; have := h.le; omega, fun e => ?_, fun ad ha i c hi => ?_⟩
    · split at e
      · omega
      · cases A with
        | none => have := h.nn rfl; omega
        | some a => cases e
    · rw [List.getElem?_drop] at hi
      have hlt := (List.getElem?_eq_some_iff.1 hi).1
      split at ha
      · have := h.le; omega
      · cases A with
        | none => cases ha
        | some a =>
          cases ha
          rw [Addr.add_add]
          exact h.rd a rfl (k + i) c hi
end
section
variable {H : Type} {enc : TypeId × Value → H} {W : World}
theorem cells_val : Tryz.prog.cellsOf 2 = 1 := by kernel_rfl
set_option maxRecDepth 100000 in
theorem open_vals {v : Value} {x : DataW H} {ps : List MemPlace} {r : Reach} {b0 : Nat}
    (hval : Value.okWide Tryz.prog W r b0 48 v) (hd : DataW.Trod enc Tryz.prog W 0 (fun _ => true) true 48 v x ps) :
    ∃ (A : Option Addr) (c : Nat) (l : List Int), v = .slice A l.length c ∧ RdV W A c l ∧ l.length ≤ maxLen ∧ ∀ x ∈ l, -9223372036854775808 ≤ x ∧ x ≤ 9223372036854775807 := by
  obtain ⟨A0, len0, cap0, rfl⟩ := okWide_slice Tryz.underlying48 hval
  obtain ⟨fuel, h⟩ := hd
  rcases open_ints Tryz.underlying48 Tryz.underlying2 cells_val h with ⟨hcs, hx⟩ | ⟨a, len, cap, zs, hcs, _, hl, hm, hz, hx, hcell, hwz⟩
  · simp [Value.cells] at hcs
    obtain ⟨rfl, rfl, rfl⟩ := hcs
    exact ⟨none, 0, [], rfl, RdV.nil W, by simp, fun d h => by simp at h⟩
  · simp [Value.cells] at hcs
    obtain ⟨rfl, rfl, rfl⟩ := hcs
    simp only [if_true] at hz
    have hlen : (zs.take len0).length = len0 := by rw [List.length_take]; omega
    refine ⟨some a, cap0, zs.take len0, by rw [hlen], ⟨by rw [hlen]; exact hl, (fun e => by cases e), fun ad ha j y hy => ?_⟩, by omega, fun x hx => bounds_i64 (hwz x (List.mem_of_mem_take hx))⟩
    cases ha
    have hj : j < len0 := by have := (List.getElem?_eq_some_iff.1 hy).1; omega
    have hc := hcell j (by omega)
    rw [List.getElem?_take_of_lt hj] at hy
    rw [List.getD_eq_getElem?_getD, hy] at hc
    exact hc
end
end Go.Proofs.YtedhciolnekpaaaGreatDoor
namespace Go.Proofs.YtedhciolnekpaaaGreatDoor
open Go.ChangeShapes Go.WideShapes Go.ChangeAt Go.RowKit
set_option linter.unusedVariables false

theorem keyClone (s : ByteArray) (w : World) (hs : s.size ≤ 281474976710656) : Calls Tryz.prog 40 #[.string s] w fun e w' => e = .returned (.string s) ∧ Below w.heap.size w w' := by
  have C := Lib.hid (Tryz.stringslite_Clone s w hs)
  go_enter Tryz.func40, Tryz.ntmps40
  go_wp2_with ((go_at_call 54; refine C.out.mono ?_); rintro e w' ⟨rfl, hb⟩)
  go_ret
  exact ⟨rfl, hb⟩
/-- A row that is told, its buckets new. -/
def Tells18 (w : World) (r : Rw) (e : Ending) (w' : World) : Prop := ∃ B c, e = .returned (rowVal r B c) ∧ OwnN w' w.heap.size B c r.bks ∧ Below w.heap.size w w'
set_option maxRecDepth 100000 in
set_option maxHeartbeats 1000000 in
theorem begin_walk (w : World) (key : ByteArray) (hs : key.size ≤ 281474976710656) (kind : Int) {v : Int} (hv : In64 v) :
    Calls Tryz.prog 30 #[.string key, .int .i64 kind, .int .i64 v] w (Tells18 w (beginR key kind v)) := by
  have CC := Lib.hid (fun w => keyClone key w hs)
  have Z0 := Lib.hid (RowB.new w zeroR none 0)
  have CF : Hid (∀ w1, Below (w.heap.size + 1) (w.alloc (rowObj zeroR none 0)) w1 → Calls Tryz.prog 42 #[.pointer (some ⟨w1.heap.size, 0, none⟩), .int .i64 v] (w1.alloc (.cells #[.string key, .int .i64 kind, .int .u64 1, .int .i64 v, .int .i64 v, .int .i64 v, .bool false, .slice none 0 0] 55)) fun e w' => e = .returned (.tuple #[]) ∧
      ∃ B c, Hr (w.heap.size + 1) w' w1.heap.size (beginR key kind v) B c ∧ RowB w' w.heap.size zeroR none 0 ∧ Below w.heap.size w w') := Lib.hid (fun w1 b1 => by
    have hz : w.heap.size + 1 ≤ w1.heap.size := by have := b1.size; simpa using this
    have h0 : Hr (w.heap.size + 1) (w1.alloc (rowObj ⟨key, kind, 1, v, v, v, false, []⟩ none 0)) w1.heap.size ⟨key, kind, 1, v, v, v, false, []⟩ none 0 := Hr.new (OwnN.nil _ _) hz
    refine (fill_walk h0 ⟨(by decide : (1 : Nat) ≤ 18446744073709551615), hv, hv, hv, fun x h => by simp at h, by simp⟩ (by simp; omega) hv).mono ?_
    rintro e w' ⟨rfl, B, c, h, b⟩
    have b2 : Below (w.heap.size + 1) (w.alloc (rowObj zeroR none 0)) w' := (b1.alloc hz _).trans b
    refine ⟨rfl, B, c, h, Z0.out.below b2 (by simp), ?_⟩
    exact (blw_new w _).trans (b2.mono (by omega)))
  unfold Tells18 rowVal
  clear hs hv
  go_enter Tryz.func30, Tryz.ntmps30
  go_wp2_with fail
  refine (CC.out _).mono ?_
  rintro e w1 ⟨rfl, b1⟩
  rw [World.size_alloc] at b1
  have CF1 := Lib.hid (CF.out w1 b1)
  clear CF CC b1
  go_wp2_with fail
  refine CF1.out.mono ?_
  rintro e w2 ⟨rfl, B, c, h, z, b⟩
  have c0 := h.row.c0
  have c1 := h.row.c1
  have c2 := h.row.c2
  have c3 := h.row.c3
  have c4 := h.row.c4
  have c5 := h.row.c5
  have c6 := h.row.c6
  have c7 := h.row.c7
  have d0 := z.c0
  have d1 := z.c1
  have d2 := z.c2
  have d3 := z.c3
  have d4 := z.c4
  have d5 := z.c5
  have d6 := z.c6
  have d7 := z.c7
  have f0 := z.f
  have H := Lib.hid h
  have BB := Lib.hid b
  have Z := Lib.hid z
  clear h z b CF1
  go_wp2_with fail
  change bodyPost _ _ _ _ _ (putRow w2 w.heap.size (beginR key kind v) B c)
  have Q := putRow_row Z.out (beginR key kind v) B c
  have O3 := Lib.hid (owns_mono (own_put (k := w.heap.size) H.out.own (Nat.lt_succ_self _) (beginR key kind v) B c) (Nat.le_succ _))
  have B3 := Lib.hid (putRow_below (k := w.heap.size) BB.out (Nat.le_refl _) (beginR key kind v) B c)
  generalize putRow w2 w.heap.size (beginR key kind v) B c = w3 at *
  clear c0 c1 c2 c3 c4 c5 c6 c7 d0 d1 d2 d3 d4 d5 d6 d7 f0
  have q0 := Q.c0
  have q1 := Q.c1
  have q2 := Q.c2
  have q3 := Q.c3
  have q4 := Q.c4
  have q5 := Q.c5
  have q6 := Q.c6
  have q7 := Q.c7
  (try simp only [Exit.inBlock, Exit.then])
  refine bodyPost_ret (by simp [results, Tryz.results30, go_sem, q0, q1, q2, q3, q4, q5, q6, q7]; try rfl) rfl ?_
  exact ⟨B, c, rfl, O3.out, B3.out⟩
def zObj : Obj := (.cells #[.string ⟨#[]⟩, .int .i64 0, .int .u64 0, .int .i64 0, .int .i64 0, .int .i64 0, .bool false, .slice none 0 0] 55)
end Go.Proofs.YtedhciolnekpaaaGreatDoor
