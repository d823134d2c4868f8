/-
  Layer 18 (tally): a row begins (Begin); the row of many values (Fold).
-/
import Derived.Test.YtmlpoeneopppaaaTallyOps
import Derived.Test.YtmlpoeneopppaaaVals
import Derived.Handy
namespace Go.Proofs.Ytmlpoeneopppaaa
open Go.ChangeShapes Go.WideShapes Go.ChangeAt Go.RowKit
set_option linter.unusedVariables false

theorem keyClone (s : ByteArray) (w : World) (hs : s.size ≤ 281474976710656) : Calls Try.prog 14 #[.string s] w fun e w' => e = .returned (.string s) ∧ Below w.heap.size w w' := by
  have C := Lib.hid (Try.stringslite_Clone s w hs)
  go_enter Try.func14, Try.ntmps14
  go_wp2_with ((go_at_call 21; refine C.out.mono ?_); rintro e w' ⟨rfl, hb⟩)
  go_ret
  exact ⟨rfl, hb⟩
/-- A row that is told, its buckets new. -/
def Tells18 (w : World) (r : Rw) (e : Ending) (w' : World) : Prop := ∃ B c, e = .returned (rowVal r B c) ∧ OwnN w' w.heap.size B c r.bks ∧ Below w.heap.size w w'
set_option maxRecDepth 100000 in
set_option maxHeartbeats 1000000 in
theorem begin_walk (w : World) (key : ByteArray) (hs : key.size ≤ 281474976710656) (kind : Int) {v : Int} (hv : In64 v) :
    Calls Try.prog 10 #[.string key, .int .i64 kind, .int .i64 v] w (Tells18 w (beginR key kind v)) := by
  have CC := Lib.hid (fun w => keyClone key w hs)
  have Z0 := Lib.hid (RowB.new w zeroR none 0)
  have CF : Hid (∀ w1, Below (w.heap.size + 1) (w.alloc (rowObj zeroR none 0)) w1 → Calls Try.prog 15 #[.pointer (some ⟨w1.heap.size, 0, none⟩), .int .i64 v] (w1.alloc (.cells #[.string key, .int .i64 kind, .int .u64 1, .int .i64 v, .int .i64 v, .int .i64 v, .bool false, .slice none 0 0] 28)) fun e w' => e = .returned (.tuple #[]) ∧
      ∃ B c, Hr (w.heap.size + 1) w' w1.heap.size (beginR key kind v) B c ∧ RowB w' w.heap.size zeroR none 0 ∧ Below w.heap.size w w') := Lib.hid (fun w1 b1 => by
    have hz : w.heap.size + 1 ≤ w1.heap.size := by have := b1.size; simpa using this
    have h0 : Hr (w.heap.size + 1) (w1.alloc (rowObj ⟨key, kind, 1, v, v, v, false, []⟩ none 0)) w1.heap.size ⟨key, kind, 1, v, v, v, false, []⟩ none 0 := Hr.new (OwnN.nil _ _) hz
    refine (fill_walk h0 ⟨(by decide : (1 : Nat) ≤ 18446744073709551615), hv, hv, hv, fun x h => by simp at h, by simp⟩ (by simp; omega) hv).mono ?_
    rintro e w' ⟨rfl, B, c, h, b⟩
    have b2 : Below (w.heap.size + 1) (w.alloc (rowObj zeroR none 0)) w' := (b1.alloc hz _).trans b
    refine ⟨rfl, B, c, h, Z0.out.below b2 (by simp), ?_⟩
    exact (blw_new w _).trans (b2.mono (by omega)))
  unfold Tells18 rowVal
  clear hs hv
  go_enter Try.func10, Try.ntmps10
  go_wp2_with fail
  refine (CC.out _).mono ?_
  rintro e w1 ⟨rfl, b1⟩
  rw [World.size_alloc] at b1
  have CF1 := Lib.hid (CF.out w1 b1)
  clear CF CC b1
  go_wp2_with fail
  refine CF1.out.mono ?_
  rintro e w2 ⟨rfl, B, c, h, z, b⟩
  have c0 := h.row.c0
  have c1 := h.row.c1
  have c2 := h.row.c2
  have c3 := h.row.c3
  have c4 := h.row.c4
  have c5 := h.row.c5
  have c6 := h.row.c6
  have c7 := h.row.c7
  have d0 := z.c0
  have d1 := z.c1
  have d2 := z.c2
  have d3 := z.c3
  have d4 := z.c4
  have d5 := z.c5
  have d6 := z.c6
  have d7 := z.c7
  have f0 := z.f
  have H := Lib.hid h
  have BB := Lib.hid b
  have Z := Lib.hid z
  clear h z b CF1
  go_wp2_with fail
  change bodyPost _ _ _ _ _ (putRow w2 w.heap.size (beginR key kind v) B c)
  have Q := putRow_row Z.out (beginR key kind v) B c
  have O3 := Lib.hid (owns_mono (own_put (k := w.heap.size) H.out.own (Nat.lt_succ_self _) (beginR key kind v) B c) (Nat.le_succ _))
  have B3 := Lib.hid (putRow_below (k := w.heap.size) BB.out (Nat.le_refl _) (beginR key kind v) B c)
  generalize putRow w2 w.heap.size (beginR key kind v) B c = w3 at *
  clear c0 c1 c2 c3 c4 c5 c6 c7 d0 d1 d2 d3 d4 d5 d6 d7 f0
  have q0 := Q.c0
  have q1 := Q.c1
  have q2 := Q.c2
  have q3 := Q.c3
  have q4 := Q.c4
  have q5 := Q.c5
  have q6 := Q.c6
  have q7 := Q.c7
  (try simp only [Exit.inBlock, Exit.then])
  refine bodyPost_ret (by simp [results, Try.results10, go_sem, q0, q1, q2, q3, q4, q5, q6, q7]; try rfl) rfl ?_
  exact ⟨B, c, rfl, O3.out, B3.out⟩
def zObj : Obj := (.cells #[.string ⟨#[]⟩, .int .i64 0, .int .u64 0, .int .i64 0, .int .i64 0, .int .i64 0, .bool false, .slice none 0 0] 28)
set_option maxRecDepth 100000 in
set_option maxHeartbeats 1000000 in
theorem fold_none (w : World) (key : ByteArray) (kind : Int) (A : Option Addr) (cap : Nat) :
    Calls Try.prog 7 #[.string key, .int .i64 kind, .slice A 0 cap] w (Tells18 w zeroR) := by
  unfold Tells18 rowVal
  go_enter Try.func7, Try.ntmps7
  go_wp2_with fail
  change bodyPost _ _ _ _ _ (w.alloc (rowObj zeroR none 0))
  have Q := RowB.new w zeroR none 0
  have B3 := Lib.hid (blw_new w (rowObj zeroR none 0))
  generalize w.alloc (rowObj zeroR none 0) = w3 at *
  have q0 := Q.c0
  have q1 := Q.c1
  have q2 := Q.c2
  have q3 := Q.c3
  have q4 := Q.c4
  have q5 := Q.c5
  have q6 := Q.c6
  have q7 := Q.c7
  (try simp only [Exit.inBlock, Exit.then])
  refine bodyPost_ret (by simp [results, Try.results7, go_sem, q0, q1, q2, q3, q4, q5, q6, q7]; try rfl) rfl ?_
  exact ⟨none, 0, rfl, OwnN.nil _ _, B3.out⟩
set_option maxRecDepth 100000 in
set_option maxHeartbeats 2000000 in
theorem fold_some (w : World) (key : ByteArray) (hs : key.size ≤ 281474976710656) (kind : Int) (A : Option Addr) (cap : Nat) (v : Int) (l : List Int) (hR : RdV w A cap (v :: l)) (hz : ∀ x ∈ v :: l, In64 x) (hl : l.length ≤ 1000) :
    Calls Try.prog 7 #[.string key, .int .i64 kind, .slice A (l.length + 1) cap] w (Tells18 w (foldR key kind (v :: l))) := by
  have hv := hz v (by simp)
  have HL := Lib.hid (fun x hx => hz x (List.mem_cons_of_mem _ hx))
  obtain ⟨ad, rfl⟩ := hR.some_of (by simp)
  have CB := Lib.hid (fun w => begin_walk w key hs kind hv)
  unfold Tells18 rowVal at CB
  obtain ⟨A', hrun, hrd⟩ := vals_from (some ad) cap (v :: l) 1 (by simp) hR.le hR.nn
  have HD := Lib.hid (hrd w hR)
  simp only [List.drop_succ_cons, List.drop_zero, List.length_cons] at hrun HD
  have hrun : ∀ w, (Instr.slice 22 (.slice (some ad) (l.length + 1) cap) (some (.int .i64 1)) none none).run Try.prog w = .ok (.slice A' l.length (cap - 1)) w := hrun
  have p0 : (w.alloc (.cells #[.string ⟨#[]⟩, .int .i64 0, .int .u64 0, .int .i64 0, .int .i64 0, .int .i64 0, .bool false, .slice none 0 0] 28)).cell? ad = some (.int .i64 v) := by
    have := (hR.below (blw_new w (.cells #[.string ⟨#[]⟩, .int .i64 0, .int .u64 0, .int .i64 0, .int .i64 0, .int .i64 0, .bool false, .slice none 0 0] 28))).rd ad rfl 0 v rfl
    simpa [Addr.add] using this
  have Z0 := Lib.hid (RowB.new w zeroR none 0)
  have HV := Lib.hid hv
  have x1 : ¬ ((l.length : Int) + 1 = 0) := by omega
  have x2 : (l.length : Int) + 1 ≤ 1001 := by omega
  clear hv hR hz hs hrd
  unfold Tells18 rowVal
  go_enter Try.func7, Try.ntmps7
  go_wp2_with fail
  refine (CB.out _).mono ?_
  rintro e w1 ⟨B, c, rfl, o1, b1⟩
  rw [World.size_alloc] at o1 b1
  have N1 : w.heap.size + 1 ≤ w1.heap.size := by have := b1.size; simpa using this
  have G0 : Hid (Hr (w.heap.size + 1) (w1.alloc (rowObj (foldR key kind [v]) B c)) w1.heap.size (foldR key kind [v]) B c) := Lib.hid (Hr.new o1 N1)
  have B0 : Hid (Below (w.heap.size + 1) (w.alloc (rowObj zeroR none 0)) (w1.alloc (rowObj (foldR key kind [v]) B c))) := Lib.hid (b1.alloc N1 _)
  clear o1 b1 p0 CB
  go_wp2_with fail
  have BD : Hid (∀ w', Below (w.heap.size + 1) (w.alloc (rowObj zeroR none 0)) w' → RdV w' A' (cap - 1) l) := Lib.hid (fun w' b => HD.out.below ((blw_new w (rowObj zeroR none 0)).trans (b.mono (Nat.le_succ _))))
  clear hrun HD
  go_loopg [9, 23] (l.length) (fun gk s9 s23 wx => ∃ i : Nat, i + gk = l.length ∧ s23 = .int .i64 (i : Nat) ∧ Hid (∃ B c, Hr (w.heap.size + 1) wx w1.heap.size (foldR key kind (v :: l.take i)) B c) ∧ Hid (Below (w.heap.size + 1) (w.alloc (rowObj zeroR none 0)) wx))
  case atStart => exact ⟨0, by omega, rfl, Lib.hid ⟨B, c, G0.out⟩, B0⟩
  case round =>
    obtain ⟨i, hi, rfl, HG, HB⟩ := hrel
    clear G0 B0
    cases gk with
    | zero =>
      obtain rfl : i = l.length := by omega
      rw [List.take_length] at HG
      obtain ⟨B2, c2, h⟩ := HG.out
      have y1 : ¬ (l.length : Int) < l.length := by omega
      have c0 := h.row.c0
      have c1 := h.row.c1
      have c2' := h.row.c2
      have c3 := h.row.c3
      have c4 := h.row.c4
      have c5 := h.row.c5
      have c6 := h.row.c6
      have c7 := h.row.c7
      have z : RowB wr w.heap.size zeroR none 0 := Z0.out.below HB.out (by simp)
      have d0 := z.c0
      have d1 := z.c1
      have d2 := z.c2
      have d3 := z.c3
      have d4 := z.c4
      have d5 := z.c5
      have d6 := z.c6
      have d7 := z.c7
      have f0 := z.f
      have Z := Lib.hid z
      have H := Lib.hid h
      have BB : Hid (Below w.heap.size w wr) := Lib.hid ((blw_new w (rowObj zeroR none 0)).trans (HB.out.mono (Nat.le_succ _)))
      clear h z HG HB BD hi
      go_wp2_with fail
      change bodyPost _ _ _ _ _ (putRow wr w.heap.size (foldR key kind (v :: l)) B2 c2)
      have Q := putRow_row Z.out (foldR key kind (v :: l)) B2 c2
      have O3 := Lib.hid (owns_mono (own_put (k := w.heap.size) H.out.own (Nat.lt_succ_self _) (foldR key kind (v :: l)) B2 c2) (Nat.le_succ _))
      have B3 := Lib.hid (putRow_below (k := w.heap.size) BB.out (Nat.le_refl _) (foldR key kind (v :: l)) B2 c2)
      generalize putRow wr w.heap.size (foldR key kind (v :: l)) B2 c2 = w3 at *
      clear c0 c1 c2' c3 c4 c5 c6 c7 d0 d1 d2 d3 d4 d5 d6 d7 f0
      have q0 := Q.c0
      have q1 := Q.c1
      have q2 := Q.c2
      have q3 := Q.c3
      have q4 := Q.c4
      have q5 := Q.c5
      have q6 := Q.c6
      have q7 := Q.c7
      (try simp only [Exit.inBlock, Exit.then])
      refine bodyPost_ret (by simp [results, Try.results7, go_sem, q0, q1, q2, q3, q4, q5, q6, q7]; try rfl) rfl ?_
      exact ⟨B2, c2, rfl, O3.out, B3.out⟩
    | succ gk =>
      have y1 : i < l.length := by omega
      obtain ⟨x, hx⟩ : ∃ x, l[i]? = some x := ⟨_, List.getElem?_eq_getElem y1⟩
      obtain ⟨ad', rfl⟩ := (BD.out _ HB.out).some_of (by omega)
      have p1 := (BD.out _ HB.out).rd ad' rfl i x hx
      have N2 : w.heap.size + 1 ≤ wr.heap.size := Nat.le_trans (by simp) HB.out.size
      have CC : Hid (Calls Try.prog 11 #[.pointer (some ⟨w1.heap.size, 0, none⟩), .int .i64 x] wr fun e w' => e = .returned (.tuple #[]) ∧ Mh (w.heap.size + 1) wr w1.heap.size (foldR key kind (v :: l.take (i + 1))) w') := Lib.hid (by
        rw [foldR_next hx]
        obtain ⟨B2, c2, h⟩ := HG.out
        exact come_walk h (foldR_ok HV.out (fun y hy => HL.out y (List.mem_of_mem_take hy))) N2 (HL.out x (List.mem_of_getElem? hx)))
      have HI := Lib.hid hi
      clear hx hi HG N2
      go_wp2_with fail
      refine CC.out.mono ?_
      rintro e w2 ⟨rfl, B2, c2, h2, b2⟩
      have G2 : Hid (∃ B c, Hr (w.heap.size + 1) w2 w1.heap.size (foldR key kind (v :: l.take (i + 1))) B c) := Lib.hid ⟨B2, c2, h2⟩
      have HB2 := Lib.hid (HB.out.trans b2)
      clear h2 b2 HB CC
      go_wp2_with fail
      go_roundg gk
      case rel => exact ⟨i + 1, by have := HI.out; omega, by go_num, G2, HB2⟩
      case measure => omega
theorem fold_walk (w : World) (key : ByteArray) (hs : key.size ≤ 281474976710656) (kind : Int) (A : Option Addr) (cap : Nat) (l : List Int) (hR : RdV w A cap l) (hz : ∀ x ∈ l, In64 x) (hl : l.length ≤ 1000) :
    Calls Try.prog 7 #[.string key, .int .i64 kind, .slice A l.length cap] w (Tells18 w (foldR key kind l)) := by
  cases l with
  | nil => exact fold_none w key kind A cap
  | cons v l => exact fold_some w key hs kind A cap v l hR hz (by simp at hl; omega)
end Go.Proofs.Ytmlpoeneopppaaa
