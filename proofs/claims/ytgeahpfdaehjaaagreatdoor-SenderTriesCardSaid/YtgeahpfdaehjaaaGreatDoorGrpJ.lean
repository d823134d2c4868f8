/-
  The document's own SameRow (layer 6's), at rows that are alike.
  Layer 7 (batch): the document's own Same, at batches that are alike; and Few. The laws' argument that is a batch, opened: its rows, their buckets. Two errors that are Codes held against each other.
-/
import Derived.Test.YtgeahpfdaehjaaaGreatDoorGrpA
import Derived.Deep.LoopGhost
import Derived.Deep.QuietTactic
import Derived.Test.YtgeahpfdaehjaaaGreatDoorQBatchPut
import Derived.Deep.SlicePairs
import Derived.Deep.Fields
namespace Go.Proofs.YtgeahpfdaehjaaaGreatDoor
open Go.ChangeShapes Go.WideShapes Go.ChangeAt Go.RowKit
set_option linter.unusedVariables false

end Go.Proofs.YtgeahpfdaehjaaaGreatDoor
namespace Go.Proofs.YtgeahpfdaehjaaaGreatDoor
open Go.ChangeShapes Go.WideShapes Go.ChangeAt Go.RowKit
set_option linter.unusedVariables false

theorem two_below {w w' : World} {p q b1 k1 b2 k2 : Nat} {u v : Value} {r : Rw} {B1 B2 : Option Addr} {c1 c2 : Nat} (h : (w.cell? ⟨p, 2, none⟩ = some u ∧ w.cell? ⟨q, 2, none⟩ = some v) ∧ (w.cell? ⟨b1, k1, none⟩ = some (.string r.key) ∧ w.cell? ⟨b1, k1 + 1, none⟩ = some (.int .i64 r.kind) ∧ w.cell? ⟨b1, k1 + 2, none⟩ = some (.int .u64 (r.many : Nat)) ∧ w.cell? ⟨b1, k1 + 3, none⟩ = some (.int .i64 r.sum) ∧ w.cell? ⟨b1, k1 + 4, none⟩ = some (.int .i64 r.least) ∧ w.cell? ⟨b1, k1 + 5, none⟩ = some (.int .i64 r.most) ∧ w.cell? ⟨b1, k1 + 6, none⟩ = some (.bool r.over) ∧ w.cell? ⟨b1, k1 + 7, none⟩ = some (.slice B1 r.bks.length c1)) ∧ (w.cell? ⟨b2, k2, none⟩ = some (.string r.key) ∧ w.cell? ⟨b2, k2 + 1, none⟩ = some (.int .i64 r.kind) ∧ w.cell? ⟨b2, k2 + 2, none⟩ = some (.int .u64 (r.many : Nat)) ∧ w.cell? ⟨b2, k2 + 3, none⟩ = some (.int .i64 r.sum) ∧ w.cell? ⟨b2, k2 + 4, none⟩ = some (.int .i64 r.least) ∧ w.cell? ⟨b2, k2 + 5, none⟩ = some (.int .i64 r.most) ∧ w.cell? ⟨b2, k2 + 6, none⟩ = some (.bool r.over) ∧ w.cell? ⟨b2, k2 + 7, none⟩ = some (.slice B2 r.bks.length c2))) (hb : Below w.heap.size w w') : (w'.cell? ⟨p, 2, none⟩ = some u ∧ w'.cell? ⟨q, 2, none⟩ = some v) ∧ (w'.cell? ⟨b1, k1, none⟩ = some (.string r.key) ∧ w'.cell? ⟨b1, k1 + 1, none⟩ = some (.int .i64 r.kind) ∧ w'.cell? ⟨b1, k1 + 2, none⟩ = some (.int .u64 (r.many : Nat)) ∧ w'.cell? ⟨b1, k1 + 3, none⟩ = some (.int .i64 r.sum) ∧ w'.cell? ⟨b1, k1 + 4, none⟩ = some (.int .i64 r.least) ∧ w'.cell? ⟨b1, k1 + 5, none⟩ = some (.int .i64 r.most) ∧ w'.cell? ⟨b1, k1 + 6, none⟩ = some (.bool r.over) ∧ w'.cell? ⟨b1, k1 + 7, none⟩ = some (.slice B1 r.bks.length c1)) ∧ (w'.cell? ⟨b2, k2, none⟩ = some (.string r.key) ∧ w'.cell? ⟨b2, k2 + 1, none⟩ = some (.int .i64 r.kind) ∧ w'.cell? ⟨b2, k2 + 2, none⟩ = some (.int .u64 (r.many : Nat)) ∧ w'.cell? ⟨b2, k2 + 3, none⟩ = some (.int .i64 r.sum) ∧ w'.cell? ⟨b2, k2 + 4, none⟩ = some (.int .i64 r.least) ∧ w'.cell? ⟨b2, k2 + 5, none⟩ = some (.int .i64 r.most) ∧ w'.cell? ⟨b2, k2 + 6, none⟩ = some (.bool r.over) ∧ w'.cell? ⟨b2, k2 + 7, none⟩ = some (.slice B2 r.bks.length c2)) :=
  ⟨⟨cell_below h.1.1 hb, cell_below h.1.2 hb⟩, R8.below h.2.1 hb, R8.below h.2.2 hb⟩
def WideR (rows : List Rw) : Prop := rows.length ≤ 9223372036854775807 ∧ ∀ r ∈ rows, r.key.size ≤ 9223372036854775807 ∧ r.bks.length ≤ 9223372036854775807
/-- Whether a batch is small enough to be gone through. -/
def fewR (r : Rw) : Bool := decide (r.key.size ≤ 1000) && decide (r.bks.length ≤ 100)
def fewB (b : Bt) : Bool := b.rows.all fewR && decide (b.rows.length ≤ 250)
theorem few_not {b : Bt} {i : Nat} {r : Rw} (h : b.rows[i]? = some r) (hf : fewR r = false) : fewB b = false := by
  unfold fewB
  rw [Bool.and_eq_false_iff]
  exact .inl (List.all_eq_false.2 ⟨r, List.mem_of_getElem? h, by rw [hf]; simp⟩)
theorem few_parts {b : Bt} (h : fewB b = true) : b.rows.length ≤ 250 ∧ ∀ r ∈ b.rows, r.key.size ≤ 1000 ∧ r.bks.length ≤ 100 := by
  unfold fewB fewR at h
  simp only [Bool.and_eq_true, decide_eq_true_eq, List.all_eq_true] at h
  exact ⟨h.2, h.1⟩
theorem few_sized {b : Bt} (h : fewB b = true) : SizedR b.rows := by
  obtain ⟨h1, h2⟩ := few_parts h
  exact ⟨by omega, fun r hr => by have := h2 r hr; omega⟩
theorem few_all {b : Bt} (h : ∀ j r, j < b.rows.length → b.rows[j]? = some r → fewR r = true) : fewB b = decide (b.rows.length ≤ 250) := by
  unfold fewB
  rw [show b.rows.all fewR = true from List.all_eq_true.2 (fun r hr => by
    obtain ⟨j, hj, rfl⟩ := List.mem_iff_getElem.1 hr
    exact h j _ hj (List.getElem?_eq_getElem hj)), Bool.true_and]
end Go.Proofs.YtgeahpfdaehjaaaGreatDoor
namespace Go.Proofs.YtgeahpfdaehjaaaGreatDoor
open Go.ChangeShapes Go.WideShapes Go.ChangeAt Go.RowKit Go.Deep
set_option linter.unusedVariables false

theorem cells_row : Tryz.prog.cellsOf 123 = 8 := by kernel_rfl
theorem cells_bt : Tryz.prog.cellsOf 60 = 3 := by kernel_rfl
theorem cells_str : Tryz.prog.cellsOf 9 = 1 := by kernel_rfl
theorem cells_int : Tryz.prog.cellsOf 3 = 1 := by kernel_rfl
theorem cells_i64 : Tryz.prog.cellsOf 2 = 1 := by kernel_rfl
theorem cells_u64 : Tryz.prog.cellsOf 120 = 1 := by kernel_rfl
theorem cells_u8 : Tryz.prog.cellsOf 5 = 1 := by kernel_rfl
theorem cells_bool : Tryz.prog.cellsOf 4 = 1 := by kernel_rfl
theorem cells_nats : Tryz.prog.cellsOf 121 = 1 := by kernel_rfl
theorem cells_rows : Tryz.prog.cellsOf 58 = 1 := by kernel_rfl
section
variable {H : Type} {enc : TypeId × Value → H} {W : World}
theorem open_nats {fuel : Nat} {cs : List Value} {x : DataW H × List MemPlace} (h : DataW.trod enc Tryz.prog W 0 (fun _ => true) true fuel 121 cs = some x) :
    ∃ (B : Option Addr) (c : Nat) (l : List Nat), cs = [.slice B l.length c] ∧ RdN W B c l ∧ l.length ≤ maxLen ∧ ∀ n ∈ l, n < 18446744073709551616 := by
  rcases open_ints Tryz.underlying121 Tryz.underlying120 cells_u64 h with ⟨hcs, hx⟩ | ⟨a, len', cap', zs, hcs, _, hl, hm, hz, hx, hcell, hwz⟩
  · exact ⟨none, 0, [], by rw [hcs]; rfl, RdN.nil W, by simp, fun n h => by simp at h⟩
  · simp only [if_true] at hz
    have hlen : ((zs.take len').map Int.toNat).length = len' := by simp; omega
    refine ⟨some a, cap', (zs.take len').map Int.toNat, by rw [hlen, hcs], ⟨by rw [hlen]; exact hl, (fun h => by cases h), fun ad ha i n hi => ?_⟩, by omega, fun n hn => ?_⟩
    · cases ha
      rw [List.getElem?_map, List.getElem?_take] at hi
      split at hi
      · have hi' : i < zs.length := by omega
        rw [List.getElem?_eq_getElem hi'] at hi
        cases hi
        rw [hcell i hi']
        have hb := bounds_u64 (hwz zs[i] (List.getElem_mem hi'))
        have hd : zs.getD i 0 = zs[i] := by simp [List.getD, hi']
        rw [hd]
        congr 2
        omega
      · cases hi
    · obtain ⟨z, hzm, rfl⟩ := List.mem_map.1 hn
      have hb := bounds_u64 (hwz z (List.mem_of_mem_take hzm))
      omega
set_option maxRecDepth 100000 in
theorem open_row8 {fuel : Nat} {cs : List Value} {x : DataW H × List MemPlace} (h : DataW.trod enc Tryz.prog W 0 (fun _ => true) true fuel 123 cs = some x) :
    ∃ (r : Rw) (B : Option Addr) (c : Nat), cs = rowOf r B c ∧ RdN W B c r.bks ∧ FitR r ∧ r.key.size ≤ maxLen ∧ r.bks.length ≤ maxLen := by
  obtain ⟨xs, n, _, _, hlen, hxs, hg⟩ := DataW.trod_struct Tryz.underlying123 h
  rw [cells_row] at hlen
  match cs, hlen with
  | [a0, a1, a2, a3, a4, a5, a6, a7], _ =>
    match xs, hxs with
    | [y0, y1, y2, y3, y4, y5, y6, y7], _ =>
      have g0 : DataW.trod enc Tryz.prog W 0 (fun _ => true) true n 9 (List.take (Tryz.prog.cellsOf 9) (List.drop 0 [a0, a1, a2, a3, a4, a5, a6, a7])) = some y0 := hg 0 _ rfl
      rw [cells_str] at g0
      have g1 : DataW.trod enc Tryz.prog W 0 (fun _ => true) true n 3 (List.take (Tryz.prog.cellsOf 3) (List.drop 1 [a0, a1, a2, a3, a4, a5, a6, a7])) = some y1 := hg 1 _ rfl
      rw [cells_int] at g1
      have g2 : DataW.trod enc Tryz.prog W 0 (fun _ => true) true n 120 (List.take (Tryz.prog.cellsOf 120) (List.drop 2 [a0, a1, a2, a3, a4, a5, a6, a7])) = some y2 := hg 2 _ rfl
      rw [cells_u64] at g2
      have g3 : DataW.trod enc Tryz.prog W 0 (fun _ => true) true n 2 (List.take (Tryz.prog.cellsOf 2) (List.drop 3 [a0, a1, a2, a3, a4, a5, a6, a7])) = some y3 := hg 3 _ rfl
      rw [cells_i64] at g3
      have g4 : DataW.trod enc Tryz.prog W 0 (fun _ => true) true n 2 (List.take (Tryz.prog.cellsOf 2) (List.drop 4 [a0, a1, a2, a3, a4, a5, a6, a7])) = some y4 := hg 4 _ rfl
      rw [cells_i64] at g4
      have g5 : DataW.trod enc Tryz.prog W 0 (fun _ => true) true n 2 (List.take (Tryz.prog.cellsOf 2) (List.drop 5 [a0, a1, a2, a3, a4, a5, a6, a7])) = some y5 := hg 5 _ rfl
      rw [cells_i64] at g5
      have g6 : DataW.trod enc Tryz.prog W 0 (fun _ => true) true n 4 (List.take (Tryz.prog.cellsOf 4) (List.drop 6 [a0, a1, a2, a3, a4, a5, a6, a7])) = some y6 := hg 6 _ rfl
      rw [cells_bool] at g6
      have g7 : DataW.trod enc Tryz.prog W 0 (fun _ => true) true n 121 (List.take (Tryz.prog.cellsOf 121) (List.drop 7 [a0, a1, a2, a3, a4, a5, a6, a7])) = some y7 := hg 7 _ rfl
      rw [cells_nats] at g7
      simp only [List.drop_zero, List.drop_succ_cons, List.take_succ_cons, List.take_zero] at g0 g1 g2 g3 g4 g5 g6 g7
      obtain ⟨k, e0, _, sk⟩ := DataW.trod_string Tryz.underlying9 g0
      obtain ⟨kd, e1, _, _⟩ := DataW.trod_int Tryz.underlying3 g1
      obtain ⟨mn, e2, _, w2⟩ := DataW.trod_int Tryz.underlying120 g2
      obtain ⟨sm, e3, _, w3⟩ := DataW.trod_int Tryz.underlying2 g3
      obtain ⟨ls, e4, _, w4⟩ := DataW.trod_int Tryz.underlying2 g4
      obtain ⟨ms, e5, _, w5⟩ := DataW.trod_int Tryz.underlying2 g5
      obtain ⟨ov, e6, _⟩ := DataW.trod_bool Tryz.underlying4 g6
      obtain ⟨B, c, l, e7, rd, hl, hn⟩ := open_nats g7
      simp at e0 e1 e2 e3 e4 e5 e6 e7
      subst e0 e1 e2 e3 e4 e5 e6 e7
      have b2 := bounds_u64 w2
      have b3 := bounds_i64 w3
      have b4 := bounds_i64 w4
      have b5 := bounds_i64 w5
      obtain ⟨m, hm⟩ : ∃ m : Nat, mn = (m : Int) := ⟨mn.toNat, by omega⟩
      subst hm
      exact ⟨⟨k, kd, m, sm, ls, ms, ov, l⟩, B, c, rfl, rd, ⟨by simp only; omega, b3.1, by simp only; omega, b4.1, by simp only; omega, b5.1, by simp only; omega, hn⟩, sk, hl⟩
theorem open_rows {fuel : Nat} {cs : List Value} {x : DataW H × List MemPlace} (h : DataW.trod enc Tryz.prog W 0 (fun _ => true) true fuel 58 cs = some x) :
    ∃ (A : Option Addr) (c : Nat) (rows : List Rw), cs = [.slice A rows.length c] ∧ RdR W A rows ∧ rows.length ≤ maxLen ∧ ∀ r ∈ rows, FitR r ∧ r.key.size ≤ maxLen ∧ r.bks.length ≤ maxLen := by
  rcases open_slice Tryz.underlying58 h with ⟨rfl, _⟩ | ⟨a, len, cap, m, n, D, Pl, rfl, _, hl, hm, hmm, _, hx⟩
  · exact ⟨none, 0, [], rfl, RdR.nil _ _, by simp, fun r h => by simp at h⟩
  · simp only [if_true] at hmm
    subst hmm
    have each : ∀ i, i < len → ∃ q : Rw × Option Addr × Nat, (∀ j, j < 8 → W.cell? (a.add (i * 8 + j)) = (rowOf q.1 q.2.1 q.2.2)[j]?) ∧ RdN W q.2.1 q.2.2 q.1.bks ∧ FitR q.1 ∧ q.1.key.size ≤ maxLen ∧ q.1.bks.length ≤ maxLen := by
      intro i hi
      obtain ⟨cs', h1, h2⟩ := hx i (by omega)
      rw [cells_row] at h1
      obtain ⟨_, hlen, hcell⟩ := World.cells?_some h1
      obtain ⟨r, B, c, rfl, rd, hf, hk, hb⟩ := open_row8 h2
      exact ⟨(r, B, c), fun j hj => by have := hcell j hj; rwa [Go.Deep.add_add] at this, rd, hf, hk, hb⟩
    obtain ⟨f, hf⟩ : ∃ f : Nat → Rw × Option Addr × Nat, ∀ i, i < len → (∀ j, j < 8 → W.cell? (a.add (i * 8 + j)) = (rowOf (f i).1 (f i).2.1 (f i).2.2)[j]?) ∧ RdN W (f i).2.1 (f i).2.2 (f i).1.bks ∧ FitR (f i).1 ∧ (f i).1.key.size ≤ maxLen ∧ (f i).1.bks.length ≤ maxLen :=
      ⟨fun i => if h : i < len then Classical.choose (each i h) else (⟨⟨#[]⟩, 0, 0, 0, 0, 0, false, []⟩, none, 0), fun i hi => by simp only [dif_pos hi]; exact Classical.choose_spec (each i hi)⟩
    have hlen : ((List.range len).map fun i => (f i).1).length = len := by simp
    refine ⟨some a, m, (List.range len).map fun i => (f i).1, by rw [hlen], ?_, by omega, ?_⟩
    · by_cases h0 : len = 0
      · subst h0; exact RdR.nil _ _
      · obtain ⟨b, o, spot⟩ := a
        have hsp : spot = none := by
          have h8 : W.cell? ((⟨b, o, spot⟩ : Addr).add (0 * 8 + 0)) = some (.string (f 0).1.key) := (hf 0 (by omega)).1 0 (by omega)
          have := World.cell?_spot h8
          simpa [Addr.add] using this
        subst hsp
        refine .inr ⟨b, o, rfl, fun i r hi => ?_⟩
        rw [List.getElem?_map] at hi
        by_cases hil : i < len
        · rw [List.getElem?_range hil] at hi
          obtain rfl := Option.some.inj hi
          obtain ⟨hc, rd, _⟩ := hf i hil
          have hk : ∀ j, j < 8 → W.cell? ⟨b, o + i * 8 + j, none⟩ = (rowOf (f i).1 (f i).2.1 (f i).2.2)[j]? := fun j hj => by
            have := hc j hj
            rw [Go.WideShapes.add_plain] at this
            rw [Nat.add_assoc]
            exact this
          exact ⟨(f i).2.1, (f i).2.2, hk 0 (by omega), hk 1 (by omega), hk 2 (by omega), hk 3 (by omega), hk 4 (by omega), hk 5 (by omega), hk 6 (by omega), hk 7 (by omega), rd⟩
        · rw [List.getElem?_eq_none (by simp; omega)] at hi
          cases hi
    · intro r hr
      obtain ⟨i, hi, rfl⟩ := List.mem_map.1 hr
      exact (hf i (by simpa using hi)).2.2
end
set_option maxRecDepth 100000 in
theorem open_batch {H : Type} {enc : TypeId × Value → H} {W : World} {v : Value} {x : DataW H} {ps : List MemPlace} {r : Reach} {b0 : Nat}
    (hval : Value.okWide Tryz.prog W r b0 60 v) (hd : DataW.Trod enc Tryz.prog W 0 (fun _ => true) true 60 v x ps) :
    ∃ (b : Bt) (A : Option Addr) (c : Nat), v = btVal b.seq b.start A b.rows.length c ∧ RdR W A b.rows ∧ WideR b.rows ∧ ∀ r ∈ b.rows, FitR r := by
  obtain ⟨cs, rfl, hsz⟩ := okWide_struct Tryz.underlying60 hval
  rw [cells_bt] at hsz
  obtain ⟨l⟩ := cs
  match l, hsz with
  | [a0, a1, a2], _ =>
    obtain ⟨fuel, hf⟩ := hd
    obtain ⟨xs, n, _, _, _, hxs, hg⟩ := DataW.trod_struct Tryz.underlying60 hf
    match xs, hxs with
    | [y0, y1, y2], _ =>
      have g0 : DataW.trod enc Tryz.prog W 0 (fun _ => true) true n 3 (List.take (Tryz.prog.cellsOf 3) (List.drop 0 [a0, a1, a2])) = some y0 := hg 0 _ rfl
      rw [cells_int] at g0
      have g1 : DataW.trod enc Tryz.prog W 0 (fun _ => true) true n 2 (List.take (Tryz.prog.cellsOf 2) (List.drop 1 [a0, a1, a2])) = some y1 := hg 1 _ rfl
      rw [cells_i64] at g1
      have g2 : DataW.trod enc Tryz.prog W 0 (fun _ => true) true n 58 (List.take (Tryz.prog.cellsOf 58) (List.drop 2 [a0, a1, a2])) = some y2 := hg 2 _ rfl
      rw [cells_rows] at g2
      simp only [List.drop_zero, List.drop_succ_cons, List.take_succ_cons, List.take_zero] at g0 g1 g2
      obtain ⟨s, e0, _, _⟩ := DataW.trod_int Tryz.underlying3 g0
      obtain ⟨t, e1, _, _⟩ := DataW.trod_int Tryz.underlying2 g1
      obtain ⟨A, c, rows, e2, hr, hl, hx⟩ := open_rows g2
      simp at e0 e1 e2
      subst e0 e1 e2
      unfold maxLen at hl hx
      exact ⟨⟨s, t, rows⟩, A, c, rfl, hr, ⟨by simp only; omega, fun r h => by have := hx r h; omega⟩, fun r h => (hx r h).1⟩
set_option maxRecDepth 100000 in
theorem open_bytes {H : Type} {enc : TypeId × Value → H} {W : World} {v : Value} {x : DataW H} {ps : List MemPlace} {r : Reach} {b0 : Nat}
    (hval : Value.okWide Tryz.prog W r b0 64 v) (hd : DataW.Trod enc Tryz.prog W 0 (fun _ => true) true 64 v x ps) :
    ∃ (A : Option Addr) (cap : Nat) (l : List UInt8), v = .slice A l.length cap ∧ RdS W A cap l ∧ l.length ≤ maxLen := by
  obtain ⟨A, len, cap, rfl⟩ := okWide_slice Tryz.underlying64 hval
  obtain ⟨fuel, hf⟩ := hd
  rcases open_ints Tryz.underlying64 Tryz.underlying5 cells_u8 hf with ⟨hcs, hx⟩ | ⟨a, len', cap', zs, hcs, _, hl, hm, hz, hx, hcell, hwz⟩
  · simp [Value.cells] at hcs
    obtain ⟨rfl, rfl, rfl⟩ := hcs
    exact ⟨none, 0, [], rfl, RdS.nil W, by simp⟩
  · simp [Value.cells] at hcs
    obtain ⟨rfl, rfl, rfl⟩ := hcs
    simp only [if_true] at hz
    have hlen : ((zs.take len).map fun z => z.toNat.toUInt8).length = len := by simp; omega
    refine ⟨some a, cap, (zs.take len).map fun z => z.toNat.toUInt8, by rw [hlen], ⟨by rw [hlen]; exact hl, (fun h => by cases h), fun ad ha i c hi => ?_⟩, by omega⟩
    cases ha
    rw [List.getElem?_map, List.getElem?_take] at hi
    split at hi
    · rename_i hil
      have hi' : i < zs.length := by omega
      rw [List.getElem?_eq_getElem hi'] at hi
      cases hi
      rw [hcell i hi']
      have hb := bounds_u8 (hwz zs[i] (List.getElem_mem hi'))
      have hd : zs.getD i 0 = zs[i] := by simp [List.getD, hi']
      rw [hd, byte_toNat (by omega)]
      congr 2
      omega
    · cases hi
end Go.Proofs.YtgeahpfdaehjaaaGreatDoor
