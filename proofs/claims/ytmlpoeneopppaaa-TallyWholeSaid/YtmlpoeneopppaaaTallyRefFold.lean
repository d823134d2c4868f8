/-
  Layer 18 (tally): the document's own Fold.
-/
import Derived.Test.YtmlpoeneopppaaaTallyRef
namespace Go.Proofs.Ytmlpoeneopppaaa
open Go.ChangeShapes Go.WideShapes Go.ChangeAt Go.RowKit
set_option linter.unusedVariables false

theorem below_drewT (w : World) : Below w.heap.size w w.drew := ⟨rfl, rfl, rfl, Nat.le_refl _, fun _ _ => rfl⟩
def noneR (key : ByteArray) (kind : Int) : Rw := ⟨key, kind, 0, 0, 0, 0, false, []⟩
/-- Where the document's fold stands. -/
def stR (key : ByteArray) (kind : Int) : List Int → Rw
  | [] => noneR key kind
  | v :: l => foldR key kind (v :: l)
theorem upN_pos (n : Nat) : 0 < upN n := by unfold upN; split <;> omega
theorem foldR_pos (key : ByteArray) (kind v : Int) (l : List Int) : 0 < (foldR key kind (v :: l)).many := by
  show 0 < (l.foldl comeR (beginR key kind v)).many
  suffices ∀ r : Rw, 0 < r.many → 0 < (l.foldl comeR r).many from this _ (by show 0 < 1; decide)
  induction l with
  | nil => intro r h; exact h
  | cons x l ih => intro r h; exact ih _ (by show 0 < upN r.many; exact upN_pos _)
theorem stR_next {key : ByteArray} {kind : Int} {l : List Int} {k : Nat} {x : Int} (hx : l[k]? = some x) :
    stR key kind (l.take (k + 1)) = fillR (midR (stR key kind (l.take k)) x) x := by
  cases l with
  | nil => simp at hx
  | cons v l =>
    cases k with
    | zero =>
      simp at hx
      subst hx
      rfl
    | succ k =>
      have hx' : l[k]? = some x := by simpa using hx
      show foldR key kind (v :: l.take (k + 1)) = fillR (midR (foldR key kind (v :: l.take k)) x) x
      rw [foldR_next hx', comeR_eq]
      unfold midR
      rw [if_pos (foldR_pos key kind v _)]
theorem stR_ok {key : ByteArray} {kind : Int} {l : List Int} (hl : ∀ x ∈ l, In64 x) : OkR (stR key kind l) := by
  cases l with
  | nil => exact ⟨Nat.zero_le _, (show In64 0 from ⟨by decide, by decide⟩), (show In64 0 from ⟨by decide, by decide⟩), (show In64 0 from ⟨by decide, by decide⟩), fun x h => by simp [stR, noneR] at h, by simp [stR, noneR]⟩
  | cons v l => exact foldR_ok (hl v (by simp)) (fun x hx => hl x (by simp [hx]))
set_option maxRecDepth 100000 in
set_option maxHeartbeats 1000000 in
theorem reffold_none (w : World) (key : ByteArray) (kind : Int) (A : Option Addr) (cap : Nat) :
    Calls Try.prog 8 #[.string key, .int .i64 kind, .slice A 0 cap] w (Tells18 w zeroR) := by
  unfold Tells18 rowVal
  go_enter Try.func8, Try.ntmps8
  go_wp2_with fail
  change bodyPost _ _ _ _ _ (w.alloc (rowObj zeroR none 0))
  have Q := RowB.new w zeroR none 0
  have B3 := Lib.hid (blw_new w (rowObj zeroR none 0))
  generalize w.alloc (rowObj zeroR none 0) = w3 at *
  have q0 := Q.c0
  have q1 := Q.c1
  have q2 := Q.c2
  have q3 := Q.c3
  have q4 := Q.c4
  have q5 := Q.c5
  have q6 := Q.c6
  have q7 := Q.c7
  (try simp only [Exit.inBlock, Exit.then])
  refine bodyPost_ret (by simp [results, Try.results8, go_sem, q0, q1, q2, q3, q4, q5, q6, q7]; try rfl) rfl ?_
  exact ⟨none, 0, rfl, OwnN.nil _ _, B3.out⟩
set_option maxRecDepth 100000 in
set_option maxHeartbeats 4000000 in
theorem reffold_some (w : World) (key : ByteArray) (kind : Int) (A : Option Addr) (cap : Nat) (l : List Int) (hR : RdV w A cap l) (hz : ∀ x ∈ l, In64 x) (h0 : 0 < l.length) (hl : l.length ≤ 1000) :
    Calls Try.prog 8 #[.string key, .int .i64 kind, .slice A l.length cap] w (Tells18 w (stR key kind l)) := by
  have HZ := Lib.hid hz
  have HD := Lib.hid hR
  obtain ⟨ad, rfl⟩ := hR.some_of h0
  have Z0 : Hid (RowB (w.alloc (rowObj zeroR none 0)) w.heap.size zeroR none 0) := Lib.hid (RowB.new w zeroR none 0)
  have G0 : Hid (Hr (w.heap.size + 1) ((w.alloc (rowObj zeroR none 0)).alloc (rowObj (noneR key kind) none 0)) (w.heap.size + 1) (noneR key kind) none 0) := Lib.hid (by
    have := Hr.new (N := w.heap.size + 1) (w := w.alloc (rowObj zeroR none 0)) (r := noneR key kind) (B := none) (c := 0) (OwnN.nil _ _) (by simp)
    rw [World.size_alloc] at this
    exact this)
  have B0 : Hid (Below (w.heap.size + 1) (w.alloc (rowObj zeroR none 0)) ((w.alloc (rowObj zeroR none 0)).alloc (rowObj (noneR key kind) none 0))) := Lib.hid (by
    have := blw_new (w.alloc (rowObj zeroR none 0)) (rowObj (noneR key kind) none 0)
    rw [World.size_alloc] at this
    exact this)
  have BD : Hid (∀ w', Below (w.heap.size + 1) (w.alloc (rowObj zeroR none 0)) w' → RdV w' (some ad) cap l) := Lib.hid (fun w' b => HD.out.below ((blw_new w (rowObj zeroR none 0)).trans (b.mono (Nat.le_succ _))))
  have x1 : ¬ ((l.length : Int) = 0) := by omega
  have x2 : ¬ (l.length = 0) := by omega
  have x3 : ((l.length : Int) == 0) = false := beq_eq_false_iff_ne.2 x1
  clear x1 x2
  unfold Tells18 rowVal
  clear hR hz h0 HD
  go_enter Try.func8, Try.ntmps8
  go_wp2_with fail
  go_loopg [8] (l.length) (fun gk s8 wx => ∃ i : Nat, i + gk = l.length ∧ s8 = .int .i64 (i : Nat) ∧ Hid (∃ B c, Hr (w.heap.size + 1) wx (w.heap.size + 1) (stR key kind (l.take i)) B c) ∧ Hid (Below (w.heap.size + 1) (w.alloc (rowObj zeroR none 0)) wx))
  case atStart => exact ⟨0, by omega, rfl, Lib.hid ⟨none, 0, G0.out⟩, B0⟩
  case round =>
    obtain ⟨i, hi, rfl, HG, HB⟩ := hrel
    clear G0 B0
    have N2 : w.heap.size + 1 + 1 ≤ wr.heap.size := by
      obtain ⟨B, c, h⟩ := HG.out
      exact h.row.lt
    cases gk with
    | zero =>
      obtain rfl : i = l.length := by omega
      rw [List.take_length] at HG
      obtain ⟨B2, c2, h⟩ := HG.out
      have y1 : ¬ (l.length : Int) < l.length := by omega
      have c0 := h.row.c0
      have c1 := h.row.c1
      have c2' := h.row.c2
      have c3 := h.row.c3
      have c4 := h.row.c4
      have c5 := h.row.c5
      have c6 := h.row.c6
      have c7 := h.row.c7
      have z : RowB wr w.heap.size zeroR none 0 := Z0.out.low HB.out (Nat.lt_succ_self _)
      have d0 := z.c0
      have d1 := z.c1
      have d2 := z.c2
      have d3 := z.c3
      have d4 := z.c4
      have d5 := z.c5
      have d6 := z.c6
      have d7 := z.c7
      have f0 := z.f
      have Z := Lib.hid z
      have H := Lib.hid h
      have BB : Hid (Below w.heap.size w wr) := Lib.hid ((blw_new w (rowObj zeroR none 0)).trans (HB.out.mono (Nat.le_succ _)))
      clear h z HG HB BD hi
      go_wp2_with fail
      change bodyPost _ _ _ _ _ (putRow wr w.heap.size (stR key kind l) B2 c2)
      have Q := putRow_row Z.out (stR key kind l) B2 c2
      have O3 := Lib.hid (owns_mono (own_put (k := w.heap.size) H.out.own (Nat.lt_succ_self _) (stR key kind l) B2 c2) (Nat.le_succ _))
      have B3 := Lib.hid (putRow_below (k := w.heap.size) BB.out (Nat.le_refl _) (stR key kind l) B2 c2)
      generalize putRow wr w.heap.size (stR key kind l) B2 c2 = w3 at *
      clear c0 c1 c2' c3 c4 c5 c6 c7 d0 d1 d2 d3 d4 d5 d6 d7 f0
      have q0 := Q.c0
      have q1 := Q.c1
      have q2 := Q.c2
      have q3 := Q.c3
      have q4 := Q.c4
      have q5 := Q.c5
      have q6 := Q.c6
      have q7 := Q.c7
      (try simp only [Exit.inBlock, Exit.then])
      refine bodyPost_ret (by simp [results, Try.results8, go_sem, q0, q1, q2, q3, q4, q5, q6, q7]; try rfl) rfl ?_
      exact ⟨B2, c2, rfl, O3.out, B3.out⟩
    | succ gk =>
      have y1 : i < l.length := by omega
      obtain ⟨x, hx⟩ : ∃ x, l[i]? = some x := ⟨_, List.getElem?_eq_getElem y1⟩
      have p1 := (BD.out _ HB.out).rd ad rfl i x hx
      obtain ⟨B1, c1', h⟩ := HG.out
      have CC : Hid (∀ w1, Below wr.heap.size wr w1 → Calls Try.prog 12 #[rowVal (stR key kind (l.take i)) B1 c1', .int .i64 x] w1 (Tells18 w1 (stR key kind (l.take (i + 1))))) := Lib.hid (fun w1 b1 => by
        rw [stR_next hx]
        exact ref_come w1 _ B1 c1' (h.rd.below b1 (Nat.le_refl _)) (stR_ok (fun y hy => HZ.out y (List.mem_of_mem_take hy))) (HZ.out x (List.mem_of_getElem? hx)))
      unfold Tells18 rowVal at CC
      have c0 := h.row.c0
      have c1 := h.row.c1
      have c2 := h.row.c2
      have c3 := h.row.c3
      have c4 := h.row.c4
      have c5 := h.row.c5
      have c6 := h.row.c6
      have c7 := h.row.c7
      have RR := Lib.hid h.row
      have HI := Lib.hid hi
      have HN := Lib.hid N2
      have C1 := Lib.hid (CC.out wr.drew (below_drewT wr))
      generalize stR key kind (l.take i) = r at *
      obtain ⟨r', hr'⟩ : ∃ r', stR key kind (l.take (i + 1)) = r' := ⟨_, rfl⟩
      rw [hr'] at C1
      have HR' := Lib.hid hr'
      clear hr' hx hi HG N2 h CC
      go_wp2_with fail
      go_region_law (go_simp; go_at_call 12; (with_reducible refine C1.out.mono ?_); rintro e w4 ⟨B2, c2x, rfl, o2, b2⟩; have R4 := RR.out.low ((below_drewT wr).trans b2) HN.out; have e0 := R4.c0; have e1 := R4.c1; have e2 := R4.c2; have e3 := R4.c3; have e4 := R4.c4; have e5 := R4.c5; have e6 := R4.c6; have e7 := R4.c7; have f0 := R4.f; try dsimp only)
      all_goals
        have G2 : Hid (∃ B c, Hr (w.heap.size + 1) (putRow w4 (w.heap.size + 1) r' B2 c2x) (w.heap.size + 1) (stR key kind (l.take (i + 1))) B c) := Lib.hid (by
          rw [HR'.out]
          exact ⟨B2, c2x, putRow_row R4 r' B2 c2x, owns_mono (own_put (k := w.heap.size + 1) o2 HN.out r' B2 c2x) (Nat.le_trans (Nat.le_succ _) HN.out), Nat.le_refl _⟩)
        have HB2 : Hid (Below (w.heap.size + 1) (w.alloc (rowObj zeroR none 0)) (putRow w4 (w.heap.size + 1) r' B2 c2x)) := Lib.hid (putRow_below (HB.out.trans (((below_drewT wr).trans b2).mono (Nat.le_trans (Nat.le_succ _) HN.out))) (Nat.le_refl _) r' B2 c2x)
        clear e0 e1 e2 e3 e4 e5 e6 e7 f0 c0 c1 c2 c3 c4 c5 c6 c7 R4 o2 b2 C1 HB RR
        unfold putRow at G2 HB2
        go_wp2_with fail
        go_roundg gk
        case rel => exact ⟨i + 1, by have := HI.out; omega, by go_num, G2, HB2⟩
        case measure => omega
theorem refold_walk (w : World) (key : ByteArray) (kind : Int) (A : Option Addr) (cap : Nat) (l : List Int) (hR : RdV w A cap l) (hz : ∀ x ∈ l, In64 x) (hl : l.length ≤ 1000) :
    Calls Try.prog 8 #[.string key, .int .i64 kind, .slice A l.length cap] w (Tells18 w (foldR key kind l)) := by
  cases l with
  | nil => exact reffold_none w key kind A cap
  | cons v l => exact reffold_some w key kind A cap (v :: l) hR hz (by simp) hl
end Go.Proofs.Ytmlpoeneopppaaa
