/-
  Layer 7 (batch): May and what it calls: whether buckets, a row, rows, a batch may be. Layer 7 (batch): May and what it calls: whether rows, and a batch, may be. Layer 7 (batch): Put: a batch's bytes, or the error ErrArg.
-/
import Derived.Test.YtgeahpfdaehjaaaGreatDoorGrpI
import Derived.Deep.RegionHeld3
namespace Go.Proofs.YtgeahpfdaehjaaaGreatDoor
open Go.ChangeShapes Go.WideShapes Go.ChangeAt Go.RowKit Go.Sort
set_option linter.unusedVariables false

theorem bk_other {r : Rw} (h : r.kind ≠ 3) : bkOk r = (r.bks.length == 0) := by unfold bkOk; rw [if_neg h]
theorem len_beq (n : Nat) : ((n : Int) == 0) = (n == 0) := by
  rw [Bool.eq_iff_iff, beq_iff_eq, beq_iff_eq]; omega
set_option maxHeartbeats 1000000 in
set_option maxRecDepth 100000 in
theorem mayBuckets (r : Rw) (B : Option Addr) (c : Nat) (w : World) (hn : RdN w B c r.bks) (hl : r.bks.length ≤ 4611686018427387904) :
    Calls Tryz.prog 120 #[rowVal r B c] w (BB (bkOk r) w) := by
  have B0 := Lib.hid (below_new w (rowObj r B c))
  have HN := Lib.hid (hn.alloc (rowObj r B c))
  clear hn
  unfold rowVal
  unfold rowObj at B0 HN
  by_cases h3 : r.kind = 3
  case neg =>
    have e1 : (r.kind != 3) = true := bne_iff_ne.2 h3
    have HE : Hid (bkOk r = ((r.bks.length : Int) == 0)) := Lib.hid (by rw [bk_other h3, len_beq])
    clear h3 HN
    go_enter Tryz.func120, Tryz.ntmps120
    go_wp2
    go_ret
    exact ⟨ret_bool HE.out.symm, B0.out⟩
  case pos =>
    have e1 : (r.kind != 3) = false := by rw [h3]; rfl
    rcases Nat.lt_or_ge r.bks.length 1 with h0 | h0
    · have HE : Hid (bkOk r = false) := Lib.hid (by unfold bkOk; rw [if_pos h3, decide_eq_false (by omega)]; rfl)
      have e2 : decide ((1 : Int) ≤ r.bks.length) = false := decide_eq_false (by omega)
      have e3 : decide (1 ≤ r.bks.length) = false := decide_eq_false (by omega)
      clear h3 HN
      go_enter Tryz.func120, Tryz.ntmps120
      go_wp2
      go_ret
      exact ⟨ret_bool HE.out.symm, B0.out⟩
    have e2 : decide ((1 : Int) ≤ r.bks.length) = true := decide_eq_true (by omega)
    rcases Nat.lt_or_ge 65 r.bks.length with h65 | h65
    · have HE : Hid (bkOk r = false) := Lib.hid (by unfold bkOk; rw [if_pos h3, decide_eq_false (p := r.bks.length ≤ 65) (by omega)]; simp)
      have e4 : decide ((r.bks.length : Int) ≤ 65) = false := decide_eq_false (by omega)
      clear h3 HN
      go_enter Tryz.func120, Tryz.ntmps120
      go_wp2
      go_ret
      exact ⟨ret_bool HE.out.symm, B0.out⟩
    · have e4 : decide ((r.bks.length : Int) ≤ 65) = true := decide_eq_true (by omega)
      obtain ⟨n, hni⟩ : ∃ n, r.bks[r.bks.length - 1]? = some n := ⟨_, List.getElem?_eq_getElem (by omega)⟩
      have HE : Hid (bkOk r = ((n : Int) != 0)) := Lib.hid (by
        unfold bkOk
        rw [if_pos h3, decide_eq_true h0, decide_eq_true h65, hni]
        simp only [Bool.and_self, Bool.true_and, Option.getD_some]
        rw [Bool.eq_iff_iff, bne_iff_ne, bne_iff_ne]; omega)
      obtain ⟨ad, rfl⟩ := HN.out.some_of (by omega)
      have hc := HN.out.rd ad rfl _ n hni
      obtain ⟨u, hu⟩ : ∃ u, r.bks.length - 1 = u := ⟨_, rfl⟩
      rw [hu] at hc
      have hz : IntKind.i64.wrap ((r.bks.length : Int) - 1) = (u : Int) := by rw [IntKind.wrap_i64]; omega
      have hz' : (r.bks.length : Int) - 1 = (u : Int) := by omega
      have l0 : (u : Int) < (r.bks.length : Int) := by omega
      clear h3 hni hu HN
      go_enter Tryz.func120, Tryz.ntmps120
      go_wp2
      go_ret
      exact ⟨ret_bool HE.out.symm, B0.out⟩

theorem lss_key (a b : ByteArray) : Op.bytesLess a.toList b.toList = decide (a.data.toList < b.data.toList) := by
  rw [bytesLess_eq, Lib.toList_data, Lib.toList_data]
theorem riseR_same {a b : Rw} (h : a.key = b.key) : riseR a b = decide (a.kind < b.kind) := by unfold riseR; rw [if_pos h]
theorem riseR_other {a b : Rw} (h : a.key ≠ b.key) : riseR a b = decide (a.key.data.toList < b.key.data.toList) := by unfold riseR; rw [if_neg h]
set_option maxHeartbeats 1000000 in
set_option maxRecDepth 100000 in
theorem batchRise (a b : Rw) (A B : Option Addr) (c d : Nat) (w : World) :
    Calls Tryz.prog 105 #[rowVal a A c, rowVal b B d] w (BB (riseR a b) w) := by
  have B0 := Lib.hid (show Below w.heap.size w ((w.alloc (rowObj a A c)).alloc (rowObj b B d)) from (below_new w _).alloc (by simp) _)
  unfold rowVal
  unfold rowObj at B0
  by_cases h : a.key = b.key
  · have e1 : (a.key.toList == b.key.toList) = true := beq_iff_eq.2 (by rw [h])
    have HE := Lib.hid (riseR_same h)
    clear h
    go_enter Tryz.func105, Tryz.ntmps105
    go_wp2
    go_ret
    exact ⟨ret_bool HE.out.symm, B0.out⟩
  · have e1 : (a.key.toList == b.key.toList) = false := beq_eq_false_iff_ne.2 (ba_ne h)
    have HE := Lib.hid (riseR_other h)
    have HK := Lib.hid (lss_key a.key b.key)
    clear h
    go_enter Tryz.func105, Tryz.ntmps105
    go_wp2
    go_ret
    exact ⟨ret_bool (by rw [HE.out, ← HK.out]), B0.out⟩

theorem rowOk_of {r : Rw} (h1 : 1 ≤ r.kind) (h2 : r.kind ≤ 3) (h3 : 1 ≤ r.many) (h4 : r.least ≤ r.most) : rowOk r = (bkOk r && keyOk r.key) := by
  unfold rowOk
  rw [decide_eq_true h1, decide_eq_true h2, decide_eq_true h3, decide_eq_true h4]
  simp
theorem rowOk_not {r : Rw} (h : ¬ (1 ≤ r.kind ∧ r.kind ≤ 3 ∧ 1 ≤ r.many ∧ r.least ≤ r.most ∧ bkOk r = true)) : rowOk r = false := by
  rw [Bool.eq_false_iff]
  intro e
  obtain ⟨h1, h2, h3, h4, h5, _⟩ := rowOk_parts e
  exact h ⟨h1, h2, h3, h4, h5⟩
set_option maxHeartbeats 2000000 in
set_option maxRecDepth 100000 in
theorem mayRow (r : Rw) (B : Option Addr) (c : Nat) (w : World) (hL : Laid w) (hn : RdN w B c r.bks) (hl : r.bks.length ≤ 4611686018427387904) (hs : r.key.size ≤ 9223372036854775807) :
    Calls Tryz.prog 104 #[rowVal r B c] w (BB (rowOk r) w) := by
  have B0 := Lib.hid (below_new w (rowObj r B c))
  have CB := Lib.hid (mayBuckets r B c (w.alloc (rowObj r B c)) (hn.alloc _) hl)
  have HL := Lib.hid hL
  have HR := Lib.hid (RowB.new w r B c)
  clear hn hL
  unfold rowVal at CB ⊢
  unfold rowObj at B0 CB HR
  by_cases h1 : 1 ≤ r.kind
  case neg =>
    have HE := Lib.hid (rowOk_not (r := r) (fun h => h1 h.1))
    have e1 : decide (r.kind < 1) = true := decide_eq_true (by omega)
    clear h1 CB
    go_enter Tryz.func104, Tryz.ntmps104
    go_wp2
    go_ret
    exact ⟨ret_bool HE.out.symm, B0.out⟩
  have e1 : decide (r.kind < 1) = false := decide_eq_false (by omega)
  by_cases h2 : r.kind ≤ 3
  case neg =>
    have HE := Lib.hid (rowOk_not (r := r) (fun h => h2 h.2.1))
    have e2 : decide (3 < r.kind) = true := decide_eq_true (by omega)
    clear h1 h2 CB
    go_enter Tryz.func104, Tryz.ntmps104
    go_wp2
    go_ret
    exact ⟨ret_bool HE.out.symm, B0.out⟩
  have e2 : decide (3 < r.kind) = false := decide_eq_false (by omega)
  by_cases h3 : 1 ≤ r.many
  case neg =>
    have HE := Lib.hid (rowOk_not (r := r) (fun h => h3 h.2.2.1))
    have e3 : decide ((r.many : Int) < 1) = true := decide_eq_true (by omega)
    have e3' : r.many < 1 := by omega
    clear h1 h2 h3 CB
    go_enter Tryz.func104, Tryz.ntmps104
    go_wp2
    go_ret
    exact ⟨ret_bool HE.out.symm, B0.out⟩
  have e3 : decide ((r.many : Int) < 1) = false := decide_eq_false (by omega)
  by_cases h4 : r.least ≤ r.most
  case neg =>
    have HE := Lib.hid (rowOk_not (r := r) (fun h => h4 h.2.2.2.1))
    have e4 : decide (r.most < r.least) = true := decide_eq_true (by omega)
    clear h1 h2 h3 h4 CB
    go_enter Tryz.func104, Tryz.ntmps104
    go_wp2
    go_ret
    exact ⟨ret_bool HE.out.symm, B0.out⟩
  have e4 : decide (r.most < r.least) = false := decide_eq_false (by omega)
  have HE0 := Lib.hid (rowOk_of h1 h2 h3 h4)
  clear h1 h2 h3 h4
  cases h5 : bkOk r with
  | false =>
    have HE := Lib.hid (show rowOk r = false by rw [HE0.out, h5, Bool.false_and])
    rw [h5] at CB
    clear h5 HE0
    go_enter Tryz.func104, Tryz.ntmps104
    go_wp2_with fail
    refine CB.out.mono ?_
    rintro e w1 ⟨rfl, hb⟩
    have B1 := Lib.hid (B0.out.trans (hb.mono (by simp)))
    clear hb CB
    go_wp2_with fail
    go_ret
    exact ⟨ret_bool HE.out.symm, B1.out⟩
  | true =>
    have HE := Lib.hid (show rowOk r = keyOk r.key by rw [HE0.out, h5, Bool.true_and])
    rw [h5] at CB
    clear h5 HE0
    go_enter Tryz.func104, Tryz.ntmps104
    go_wp2_with fail
    refine CB.out.mono ?_
    rintro e w1 ⟨rfl, hb⟩
    have B1 := Lib.hid (B0.out.trans (hb.mono (by simp)))
    have R1 := HR.out.below hb (Nat.le_refl _)
    have c0 := R1.c0
    have hL1 := HL.out.below B1.out
    clear hb CB R1 HR
    cases h6 : keyOk r.key with
    | false =>
      have C := Lib.hid (seriesOfBad r.key w1 hL1 hs h6)
      rw [h6] at HE
      clear h6 hL1
      go_wp2_with fail
      refine C.out.mono ?_
      rintro e w2 ⟨rfl, hb⟩
      have B2 := Lib.hid (B1.out.trans (hb.mono B1.out.size))
      unfold evZero evVal
      clear hb C
      go_wp2_with fail
      go_ret
      exact ⟨ret_bool HE.out.symm, B2.out.alloc B2.out.size _⟩
    | true =>
      have C := Lib.hid (seriesOfGood r.key w1 hL1 h6)
      rw [h6] at HE
      clear h6 hL1
      go_wp2_with fail
      refine C.out.mono ?_
      rintro e w2 ⟨n9, A9, l9, c9, rfl, hb⟩
      have B2 := Lib.hid (B1.out.trans (hb.mono B1.out.size))
      unfold evVal
      clear hb C
      go_wp2_with fail
      go_ret
      exact ⟨ret_bool HE.out.symm, B2.out.alloc B2.out.size _⟩
end Go.Proofs.YtgeahpfdaehjaaaGreatDoor
namespace Go.Proofs.YtgeahpfdaehjaaaGreatDoor
open Go.ChangeShapes Go.WideShapes Go.ChangeAt Go.RowKit Go.Sort
set_option linter.unusedVariables false

def SizedR (rows : List Rw) : Prop := rows.length ≤ 4611686018427387904 ∧ ∀ r ∈ rows, r.key.size ≤ 9223372036854775807 ∧ r.bks.length ≤ 4611686018427387904
theorem cell_below {w1 w2 : World} {b o : Nat} {v : Value} (h : w1.cell? ⟨b, o, none⟩ = some v) (hb : Below w1.heap.size w1 w2) : w2.cell? ⟨b, o, none⟩ = some v := by
  rw [hb.cell (World.block_lt_of_cell? w1 _ h)]; exact h
/-- Take number i first, where its guard is false: its temporary holds nothing. -/
theorem takeSkip {P : Program} {md : Region.Mode} {ops : Array Oper} {Q : Exit → Act → World → Prop} {S : World → Prop} (i d : Nat) {oi : Oper} {fuel : Nat} {listed : Array Bool} {a : Act} {w : World} (hi : ops[i]? = some oi) (hd : oi.dst = some d)
    (hs : Region.noSelect ops = true) (hf : Region.free md ops listed i = true) (hr : (Region.ready md ops listed).contains i = true)
    (hQ : ∀ c a w, Q (.panic c) (a.put (some d) undef) w → Q (.panic c) a w) (hw : Region.wanted oi (yielded ops a.tmps) = false) (hS : S w)
    (h : wpAnyH P md ops Q S fuel (listed.setIfInBounds i true) (a.put (some d) undef) w) : wpAnyH P md ops Q S (fuel + 1) listed a w := by
  rw [← hd] at hQ h
  exact wpAnyH_take hi hs hf hr hQ (Or.inr ⟨hw, rfl⟩) hS h
/-- Take number i first, where its guard is true, or it has none. -/
theorem takeWanted {P : Program} {md : Region.Mode} {ops : Array Oper} {Q : Exit → Act → World → Prop} {S : World → Prop} (i d : Nat) {oi : Oper} {v : Value} {fuel : Nat} {listed : Array Bool} {a : Act} {w : World} (hi : ops[i]? = some oi) (hd : oi.dst = some d)
    (hs : Region.noSelect ops = true) (hf : Region.free md ops listed i = true) (hr : (Region.ready md ops listed).contains i = true)
    (hQ : ∀ c a w, Q (.panic c) (a.put (some d) v) w → Q (.panic c) a w) (hw : Region.wanted oi (yielded ops a.tmps) = true) (hy : ∀ w, S w → (execOp a.eval oi).run P w = .ok (.value v) w) (hS : S w)
    (h : wpAnyH P md ops Q S fuel (listed.setIfInBounds i true) (a.put (some d) v) w) : wpAnyH P md ops Q S (fuel + 1) listed a w := by
  rw [← hd] at hQ h
  exact wpAnyH_take hi hs hf hr hQ (Or.inl ⟨hw, hy⟩) hS h
/-- A row's eight cells. -/
def R8 (w' : World) (N k : Nat) (r : Rw) (B : Option Addr) (c' : Nat) : Prop := w'.cell? ⟨N, k, none⟩ = some (.string r.key) ∧ w'.cell? ⟨N, k + 1, none⟩ = some (.int .i64 r.kind) ∧ w'.cell? ⟨N, k + 2, none⟩ = some (.int .u64 (r.many : Nat)) ∧ w'.cell? ⟨N, k + 3, none⟩ = some (.int .i64 r.sum) ∧ w'.cell? ⟨N, k + 4, none⟩ = some (.int .i64 r.least) ∧ w'.cell? ⟨N, k + 5, none⟩ = some (.int .i64 r.most) ∧ w'.cell? ⟨N, k + 6, none⟩ = some (.bool r.over) ∧ w'.cell? ⟨N, k + 7, none⟩ = some (.slice B r.bks.length c')
theorem RowAt.r8 {w : World} {b k : Nat} {r : Rw} {B : Option Addr} {c : Nat} (h : RowAt w b k r B c) : R8 w b k r B c := ⟨h.p0, h.p1, h.p2, h.p3, h.p4, h.p5, h.p6, h.p7⟩
theorem R8.below {w w' : World} {b k : Nat} {r : Rw} {B : Option Addr} {c : Nat} (h : R8 w b k r B c) (hb : Below w.heap.size w w') : R8 w' b k r B c :=
  ⟨cell_below h.1 hb, cell_below h.2.1 hb, cell_below h.2.2.1 hb, cell_below h.2.2.2.1 hb, cell_below h.2.2.2.2.1 hb, cell_below h.2.2.2.2.2.1 hb, cell_below h.2.2.2.2.2.2.1 hb, cell_below h.2.2.2.2.2.2.2 hb⟩
theorem RowB.r8 {w : World} {g : Nat} {r : Rw} {B : Option Addr} {c : Nat} (h : RowB w g r B c) : R8 w g 0 r B c := ⟨h.c0, h.c1, h.c2, h.c3, h.c4, h.c5, h.c6, h.c7⟩

theorem both_below {w w' : World} {N b k : Nat} {r a : Rw} {B B1 : Option Addr} {c' c1 : Nat} (h : (w.cell? ⟨N, 0, none⟩ = some (.string r.key) ∧ w.cell? ⟨N, 1, none⟩ = some (.int .i64 r.kind) ∧ w.cell? ⟨N, 2, none⟩ = some (.int .u64 (r.many : Nat)) ∧ w.cell? ⟨N, 3, none⟩ = some (.int .i64 r.sum) ∧ w.cell? ⟨N, 4, none⟩ = some (.int .i64 r.least) ∧ w.cell? ⟨N, 5, none⟩ = some (.int .i64 r.most) ∧ w.cell? ⟨N, 6, none⟩ = some (.bool r.over) ∧ w.cell? ⟨N, 7, none⟩ = some (.slice B r.bks.length c')) ∧ (w.cell? ⟨b, k, none⟩ = some (.string a.key) ∧ w.cell? ⟨b, k + 1, none⟩ = some (.int .i64 a.kind) ∧ w.cell? ⟨b, k + 2, none⟩ = some (.int .u64 (a.many : Nat)) ∧ w.cell? ⟨b, k + 3, none⟩ = some (.int .i64 a.sum) ∧ w.cell? ⟨b, k + 4, none⟩ = some (.int .i64 a.least) ∧ w.cell? ⟨b, k + 5, none⟩ = some (.int .i64 a.most) ∧ w.cell? ⟨b, k + 6, none⟩ = some (.bool a.over) ∧ w.cell? ⟨b, k + 7, none⟩ = some (.slice B1 a.bks.length c1))) (hb : Below w.heap.size w w') : (w'.cell? ⟨N, 0, none⟩ = some (.string r.key) ∧ w'.cell? ⟨N, 1, none⟩ = some (.int .i64 r.kind) ∧ w'.cell? ⟨N, 2, none⟩ = some (.int .u64 (r.many : Nat)) ∧ w'.cell? ⟨N, 3, none⟩ = some (.int .i64 r.sum) ∧ w'.cell? ⟨N, 4, none⟩ = some (.int .i64 r.least) ∧ w'.cell? ⟨N, 5, none⟩ = some (.int .i64 r.most) ∧ w'.cell? ⟨N, 6, none⟩ = some (.bool r.over) ∧ w'.cell? ⟨N, 7, none⟩ = some (.slice B r.bks.length c')) ∧ (w'.cell? ⟨b, k, none⟩ = some (.string a.key) ∧ w'.cell? ⟨b, k + 1, none⟩ = some (.int .i64 a.kind) ∧ w'.cell? ⟨b, k + 2, none⟩ = some (.int .u64 (a.many : Nat)) ∧ w'.cell? ⟨b, k + 3, none⟩ = some (.int .i64 a.sum) ∧ w'.cell? ⟨b, k + 4, none⟩ = some (.int .i64 a.least) ∧ w'.cell? ⟨b, k + 5, none⟩ = some (.int .i64 a.most) ∧ w'.cell? ⟨b, k + 6, none⟩ = some (.bool a.over) ∧ w'.cell? ⟨b, k + 7, none⟩ = some (.slice B1 a.bks.length c1)) := ⟨R8.below (k := 0) h.1 hb, R8.below h.2 hb⟩
set_option maxHeartbeats 4000000 in
set_option maxRecDepth 100000 in
theorem mayRows (A : Option Addr) (c : Nat) (rows : List Rw) (w : World) (hL : Laid w) (hr : RdR w A rows) (hz : SizedR rows) :
    Calls Tryz.prog 79 #[.slice A rows.length c] w (BB (rowsOk rows) w) := by
  have HL := Lib.hid hL
  have HR := Lib.hid hr
  have HZ := Lib.hid hz
  have hlz := hz.1
  clear hL hr hz
  by_cases h200 : rows.length ≤ 200
  case neg =>
    have HE := Lib.hid (rowsOk_many h200)
    have e1 : decide ((200 : Int) < rows.length) = true := decide_eq_true (by omega)
    go_enter Tryz.func79, Tryz.ntmps79
    go_wp2
    go_ret
    exact ⟨ret_bool HE.out.symm, Below.refl _ _⟩
  have e1 : decide ((200 : Int) < rows.length) = false := decide_eq_false (by omega)
  go_enter Tryz.func79, Tryz.ntmps79
  go_wp2
  go_loopg [10] (rows.length) (fun g s10 wx => ∃ i : Nat, i + g = rows.length ∧ s10 = .int .i64 i ∧ Hid ((∀ j, j < i → stepOk rows j = true) ∧ Below w.heap.size w wx))
  case atStart => exact ⟨0, by omega, rfl, Lib.hid ⟨fun j hj => by omega, Below.refl _ _⟩⟩
  case round =>
    obtain ⟨i, hig, rfl, HG⟩ := hrel
    cases gk with
    | zero =>
      have e2 : decide ((i : Int) < (rows.length : Int)) = false := decide_eq_false (by omega)
      have e3 : decide (i < rows.length) = false := decide_eq_false (by omega)
      have HT := Lib.hid (rowsOk_true h200 (fun j hj => HG.out.1 j (by omega)))
      go_wp2
      go_ret
      exact ⟨ret_bool HT.out.symm, HG.out.2⟩
    | succ g =>
      have hlt : i < rows.length := by omega
      have hltz : (i : Int) < (rows.length : Int) := by omega
      obtain ⟨r, hri⟩ : ∃ r, rows[i]? = some r := ⟨_, List.getElem?_eq_getElem hlt⟩
      have hR := HR.out.below HG.out.2 (Nat.le_refl _)
      obtain ⟨b, o, B, c', rfl, ha⟩ := hR.at hri
      have p0 := ha.p0
      have p1 := ha.p1
      have p2 := ha.p2
      have p3 := ha.p3
      have p4 := ha.p4
      have p5 := ha.p5
      have p6 := ha.p6
      have p7 := ha.p7
      obtain ⟨sk, sb⟩ := HZ.out.2 r (List.mem_of_getElem? hri)
      have HRI := Lib.hid hri
      have HBK := Lib.hid ha.bk
      have HRR := Lib.hid hR
      clear ha hR hri
      go_wp2
      have HN := RowB.new wr r B c'
      have HB := Lib.hid (HG.out.2.trans ((below_new wr (rowObj r B c')).mono HG.out.2.size))
      have HK := Lib.hid (HBK.out.alloc (rowObj r B c'))
      have HR2 := Lib.hid (HRR.out.alloc (rowObj r B c'))
      unfold rowObj at HN HB HK HR2
      obtain ⟨W, hW⟩ : ∃ W, W = wr.alloc (.cells #[.string r.key, .int .i64 r.kind, .int .u64 (r.many : Nat), .int .i64 r.sum, .int .i64 r.least, .int .i64 r.most, .bool r.over, .slice B r.bks.length c'] 123) := ⟨_, rfl⟩
      rw [← hW] at HN HB HK HR2 ⊢
      have q := HN.r8
      have hL2 := HL.out.below HB.out
      have CM := mayRow r B c' W.drew (hL2.below (below_drew1 _)) (HK.out.below (below_drew1 _) (Nat.le_refl _)) sb sk
      clear hW p0 p1 p2 p3 p4 p5 p6 p7 HN HK hL2 HBK HRR
      generalize wr.heap.size = N at *
      obtain ⟨q0, q1, q2, q3, q4, q5, q6, q7⟩ := q
      unfold rowVal at CM
      cases hro : rowOk r with
      | false =>
        have HF := Lib.hid (rowsOk_false hlt (step_row HRI.out hro))
        rw [hro] at CM
        have CM := Lib.hid CM
        clear hro
        refine wp_region_held_drew (S := fun w' => w'.cell? ⟨N, 0, none⟩ = some (.string r.key) ∧ w'.cell? ⟨N, 1, none⟩ = some (.int .i64 r.kind) ∧ w'.cell? ⟨N, 2, none⟩ = some (.int .u64 (r.many : Nat)) ∧ w'.cell? ⟨N, 3, none⟩ = some (.int .i64 r.sum) ∧ w'.cell? ⟨N, 4, none⟩ = some (.int .i64 r.least) ∧ w'.cell? ⟨N, 5, none⟩ = some (.int .i64 r.most) ∧ w'.cell? ⟨N, 6, none⟩ = some (.bool r.over) ∧ w'.cell? ⟨N, 7, none⟩ = some (.slice B r.bks.length c')) (by kernel_rfl) (by exact R8.below (k := 0) ⟨q0, q1, q2, q3, q4, q5, q6, q7⟩ (below_drew1 _)) (fun hHeld0 => ?_)
        refine takeWanted 0 15 (v := ?vv0) rfl rfl (by kernel_rfl) (by kernel_rfl) (by kernel_rfl) (fun _ _ _ h => h) (by kernel_rfl) ?hy0 (by assumption) ?rest0
        case hy0 => (intro wq hSw; (try dsimp only at hSw); go_simp <;> with_reducible rfl)
        simp only [Act.put, List.setIfInBounds_toArray, List.set_cons_zero, List.set_cons_succ]
        refine wpAnyH_ready (rs := [1]) (by kernel_rfl) (by simp) ?_
        refine AllReadyH.cons rfl (fun K hK => ?_) AllReadyH.nil
        go_simp
        go_wp2_with ((go_at_call 104; refine CM.out.mono ?_); rintro e w9 ⟨rfl, hb9⟩)
        refine hK.out _ _ (by exact R8.below (k := 0) (by assumption) (by assumption)) (fun hHeld => ?_)
        clear hK K hHeld0
        refine takeWanted 2 17 (v := ?vv2) rfl rfl (by kernel_rfl) (by kernel_rfl) (by kernel_rfl) (fun _ _ _ h => h) (by kernel_rfl) ?hy2 (by assumption) ?rest2
        case hy2 => (intro wq hSw; (try dsimp only at hSw); go_simp <;> with_reducible rfl)
        simp only [Act.put, List.setIfInBounds_toArray, List.set_cons_zero, List.set_cons_succ]
        refine takeWanted 3 18 (v := ?vv3) rfl rfl (by kernel_rfl) (by kernel_rfl) (by kernel_rfl) (fun _ _ _ h => h) (by kernel_rfl) ?hy3 (by assumption) ?rest3
        case hy3 => (intro wq hSw; (try dsimp only at hSw); go_simp <;> with_reducible rfl)
        simp only [Act.put, List.setIfInBounds_toArray, List.set_cons_zero, List.set_cons_succ]
        refine takeSkip 4 19 rfl rfl (by kernel_rfl) (by kernel_rfl) (by kernel_rfl) (fun _ _ _ h => h) (by kernel_rfl) (by assumption) ?_
        simp only [Act.put, List.setIfInBounds_toArray, List.set_cons_zero, List.set_cons_succ]
        refine takeSkip 5 20 rfl rfl (by kernel_rfl) (by kernel_rfl) (by kernel_rfl) (fun _ _ _ h => h) (by kernel_rfl) (by assumption) ?_
        simp only [Act.put, List.setIfInBounds_toArray, List.set_cons_zero, List.set_cons_succ]
        refine takeSkip 6 21 rfl rfl (by kernel_rfl) (by kernel_rfl) (by kernel_rfl) (fun _ _ _ h => h) (by kernel_rfl) (by assumption) ?_
        simp only [Act.put, List.setIfInBounds_toArray, List.set_cons_zero, List.set_cons_succ]
        refine takeSkip 7 22 rfl rfl (by kernel_rfl) (by kernel_rfl) (by kernel_rfl) (fun _ _ _ h => h) (by kernel_rfl) (by assumption) ?_
        simp only [Act.put, List.setIfInBounds_toArray, List.set_cons_zero, List.set_cons_succ]
        refine takeSkip 8 23 rfl rfl (by kernel_rfl) (by kernel_rfl) (by kernel_rfl) (fun _ _ _ h => h) (by kernel_rfl) (by assumption) ?_
        simp only [Act.put, List.setIfInBounds_toArray, List.set_cons_zero, List.set_cons_succ]
        refine takeSkip 9 24 rfl rfl (by kernel_rfl) (by kernel_rfl) (by kernel_rfl) (fun _ _ _ h => h) (by kernel_rfl) (by assumption) ?_
        simp only [Act.put, List.setIfInBounds_toArray, List.set_cons_zero, List.set_cons_succ]
        refine takeSkip 10 25 rfl rfl (by kernel_rfl) (by kernel_rfl) (by kernel_rfl) (fun _ _ _ h => h) (by kernel_rfl) (by assumption) ?_
        simp only [Act.put, List.setIfInBounds_toArray, List.set_cons_zero, List.set_cons_succ]
        refine takeSkip 11 26 rfl rfl (by kernel_rfl) (by kernel_rfl) (by kernel_rfl) (fun _ _ _ h => h) (by kernel_rfl) (by assumption) ?_
        simp only [Act.put, List.setIfInBounds_toArray, List.set_cons_zero, List.set_cons_succ]
        refine takeSkip 12 27 rfl rfl (by kernel_rfl) (by kernel_rfl) (by kernel_rfl) (fun _ _ _ h => h) (by kernel_rfl) (by assumption) ?_
        simp only [Act.put, List.setIfInBounds_toArray, List.set_cons_zero, List.set_cons_succ]
        refine takeSkip 13 28 rfl rfl (by kernel_rfl) (by kernel_rfl) (by kernel_rfl) (fun _ _ _ h => h) (by kernel_rfl) (by assumption) ?_
        simp only [Act.put, List.setIfInBounds_toArray, List.set_cons_zero, List.set_cons_succ]
        refine takeSkip 14 29 rfl rfl (by kernel_rfl) (by kernel_rfl) (by kernel_rfl) (fun _ _ _ h => h) (by kernel_rfl) (by assumption) ?_
        simp only [Act.put, List.setIfInBounds_toArray, List.set_cons_zero, List.set_cons_succ]
        refine takeSkip 15 30 rfl rfl (by kernel_rfl) (by kernel_rfl) (by kernel_rfl) (fun _ _ _ h => h) (by kernel_rfl) (by assumption) ?_
        simp only [Act.put, List.setIfInBounds_toArray, List.set_cons_zero, List.set_cons_succ]
        refine takeWanted 16 31 (v := ?vv16) rfl rfl (by kernel_rfl) (by kernel_rfl) (by kernel_rfl) (fun _ _ _ h => h) (by kernel_rfl) ?hy16 (by assumption) ?rest16
        case hy16 => (intro wq hSw; (try dsimp only at hSw); go_simp <;> with_reducible rfl)
        simp only [Act.put, List.setIfInBounds_toArray, List.set_cons_zero, List.set_cons_succ]
        refine wpAnyH_done (by kernel_rfl) ?_ _
        clear hHeld
        go_wp2
        go_ret
        exact ⟨ret_bool HF.out.symm, (HB.out.trans ((below_drew1 _).mono HB.out.size)).trans (hb9.mono HB.out.size)⟩
      | true =>
        rw [hro] at CM
        have CM := Lib.hid CM
        rcases Nat.eq_zero_or_pos i with hi0 | hi0
        · have HS : Hid (∀ j, j < i + 1 → stepOk rows j = true) := Lib.hid (fun j hj => by
            obtain rfl : j = 0 := by omega
            exact step_first (by rw [← hi0]; exact HRI.out) hro)
          have e4 : decide ((0 : Int) < (i : Int)) = false := decide_eq_false (by omega)
          have e5 : decide (0 < i) = false := decide_eq_false (by omega)
          clear hro hi0
          refine wp_region_held_drew (S := fun w' => w'.cell? ⟨N, 0, none⟩ = some (.string r.key) ∧ w'.cell? ⟨N, 1, none⟩ = some (.int .i64 r.kind) ∧ w'.cell? ⟨N, 2, none⟩ = some (.int .u64 (r.many : Nat)) ∧ w'.cell? ⟨N, 3, none⟩ = some (.int .i64 r.sum) ∧ w'.cell? ⟨N, 4, none⟩ = some (.int .i64 r.least) ∧ w'.cell? ⟨N, 5, none⟩ = some (.int .i64 r.most) ∧ w'.cell? ⟨N, 6, none⟩ = some (.bool r.over) ∧ w'.cell? ⟨N, 7, none⟩ = some (.slice B r.bks.length c')) (by kernel_rfl) (by exact R8.below (k := 0) ⟨q0, q1, q2, q3, q4, q5, q6, q7⟩ (below_drew1 _)) (fun hHeld0 => ?_)
          refine takeWanted 0 15 (v := ?vw0) rfl rfl (by kernel_rfl) (by kernel_rfl) (by kernel_rfl) (fun _ _ _ h => h) (by kernel_rfl) ?hw0 (by assumption) ?resw0
          case hw0 => (intro wq hSw; (try dsimp only at hSw); go_simp <;> with_reducible rfl)
          simp only [Act.put, List.setIfInBounds_toArray, List.set_cons_zero, List.set_cons_succ]
          refine wpAnyH_ready (rs := [1]) (by kernel_rfl) (by simp) ?_
          refine AllReadyH.cons rfl (fun K hK => ?_) AllReadyH.nil
          go_simp
          go_wp2_with ((go_at_call 104; refine CM.out.mono ?_); rintro e w9 ⟨rfl, hb9⟩)
          refine hK.out _ _ (by exact R8.below (k := 0) (by assumption) (by assumption)) (fun hHeld => ?_)
          clear hK K hHeld0
          refine takeWanted 2 17 (v := ?vw2) rfl rfl (by kernel_rfl) (by kernel_rfl) (by kernel_rfl) (fun _ _ _ h => h) (by kernel_rfl) ?hw2 (by assumption) ?resw2
          case hw2 => (intro wq hSw; (try dsimp only at hSw); go_simp <;> with_reducible rfl)
          simp only [Act.put, List.setIfInBounds_toArray, List.set_cons_zero, List.set_cons_succ]
          refine takeWanted 3 18 (v := ?vw3) rfl rfl (by kernel_rfl) (by kernel_rfl) (by kernel_rfl) (fun _ _ _ h => h) (by kernel_rfl) ?hw3 (by assumption) ?resw3
          case hw3 => (intro wq hSw; (try dsimp only at hSw); go_simp <;> with_reducible rfl)
          simp only [Act.put, List.setIfInBounds_toArray, List.set_cons_zero, List.set_cons_succ]
          refine takeWanted 4 19 (v := ?vw4) rfl rfl (by kernel_rfl) (by kernel_rfl) (by kernel_rfl) (fun _ _ _ h => h) (by kernel_rfl) ?hw4 (by assumption) ?resw4
          case hw4 => (intro wq hSw; (try dsimp only at hSw); go_simp <;> with_reducible rfl)
          simp only [Act.put, List.setIfInBounds_toArray, List.set_cons_zero, List.set_cons_succ]
          refine takeWanted 5 20 (v := ?vw5) rfl rfl (by kernel_rfl) (by kernel_rfl) (by kernel_rfl) (fun _ _ _ h => h) (by kernel_rfl) ?hw5 (by assumption) ?resw5
          case hw5 => (intro wq hSw; (try dsimp only at hSw); go_simp <;> with_reducible rfl)
          simp only [Act.put, List.setIfInBounds_toArray, List.set_cons_zero, List.set_cons_succ]
          refine takeWanted 6 21 (v := ?vw6) rfl rfl (by kernel_rfl) (by kernel_rfl) (by kernel_rfl) (fun _ _ _ h => h) (by kernel_rfl) ?hw6 (by assumption) ?resw6
          case hw6 => (intro wq hSw; (try dsimp only at hSw); go_simp <;> with_reducible rfl)
          simp only [Act.put, List.setIfInBounds_toArray, List.set_cons_zero, List.set_cons_succ]
          refine takeSkip 7 22 rfl rfl (by kernel_rfl) (by kernel_rfl) (by kernel_rfl) (fun _ _ _ h => h) (by kernel_rfl) (by assumption) ?_
          simp only [Act.put, List.setIfInBounds_toArray, List.set_cons_zero, List.set_cons_succ]
          refine takeSkip 8 23 rfl rfl (by kernel_rfl) (by kernel_rfl) (by kernel_rfl) (fun _ _ _ h => h) (by kernel_rfl) (by assumption) ?_
          simp only [Act.put, List.setIfInBounds_toArray, List.set_cons_zero, List.set_cons_succ]
          refine takeSkip 9 24 rfl rfl (by kernel_rfl) (by kernel_rfl) (by kernel_rfl) (fun _ _ _ h => h) (by kernel_rfl) (by assumption) ?_
          simp only [Act.put, List.setIfInBounds_toArray, List.set_cons_zero, List.set_cons_succ]
          refine takeSkip 10 25 rfl rfl (by kernel_rfl) (by kernel_rfl) (by kernel_rfl) (fun _ _ _ h => h) (by kernel_rfl) (by assumption) ?_
          simp only [Act.put, List.setIfInBounds_toArray, List.set_cons_zero, List.set_cons_succ]
          refine takeSkip 11 26 rfl rfl (by kernel_rfl) (by kernel_rfl) (by kernel_rfl) (fun _ _ _ h => h) (by kernel_rfl) (by assumption) ?_
          simp only [Act.put, List.setIfInBounds_toArray, List.set_cons_zero, List.set_cons_succ]
          refine takeSkip 12 27 rfl rfl (by kernel_rfl) (by kernel_rfl) (by kernel_rfl) (fun _ _ _ h => h) (by kernel_rfl) (by assumption) ?_
          simp only [Act.put, List.setIfInBounds_toArray, List.set_cons_zero, List.set_cons_succ]
          refine takeSkip 13 28 rfl rfl (by kernel_rfl) (by kernel_rfl) (by kernel_rfl) (fun _ _ _ h => h) (by kernel_rfl) (by assumption) ?_
          simp only [Act.put, List.setIfInBounds_toArray, List.set_cons_zero, List.set_cons_succ]
          refine takeSkip 14 29 rfl rfl (by kernel_rfl) (by kernel_rfl) (by kernel_rfl) (fun _ _ _ h => h) (by kernel_rfl) (by assumption) ?_
          simp only [Act.put, List.setIfInBounds_toArray, List.set_cons_zero, List.set_cons_succ]
          refine takeWanted 15 30 (v := ?vw15) rfl rfl (by kernel_rfl) (by kernel_rfl) (by kernel_rfl) (fun _ _ _ h => h) (by kernel_rfl) ?hw15 (by assumption) ?resw15
          case hw15 => (intro wq hSw; (try dsimp only at hSw); go_simp <;> with_reducible rfl)
          simp only [Act.put, List.setIfInBounds_toArray, List.set_cons_zero, List.set_cons_succ]
          refine takeWanted 16 31 (v := ?vw16) rfl rfl (by kernel_rfl) (by kernel_rfl) (by kernel_rfl) (fun _ _ _ h => h) (by kernel_rfl) ?hw16 (by assumption) ?resw16
          case hw16 => (intro wq hSw; (try dsimp only at hSw); go_simp <;> with_reducible rfl)
          simp only [Act.put, List.setIfInBounds_toArray, List.set_cons_zero, List.set_cons_succ]
          refine wpAnyH_done (by kernel_rfl) ?_ _
          clear hHeld
          go_wp2
          go_roundg g
          case rel => exact ⟨i + 1, by omega, by go_num, Lib.hid ⟨HS.out, (HB.out.trans ((below_drew1 _).mono HB.out.size)).trans (hb9.mono HB.out.size)⟩⟩
          case measure => omega
        · obtain ⟨u, hu⟩ : ∃ u, i = u + 1 := ⟨i - 1, by omega⟩
          obtain ⟨a, hau⟩ : ∃ a, rows[u]? = some a := ⟨_, List.getElem?_eq_getElem (by omega)⟩
          have HST := Lib.hid (step_next hau (by rw [← hu]; exact HRI.out) hro)
          obtain ⟨b', o', B1, c1, hAA, ha⟩ := HR2.out.at hau
          obtain ⟨rfl, rfl⟩ : b = b' ∧ o = o' := by cases hAA; exact ⟨rfl, rfl⟩
          have CR := fun w' => batchRise a r B1 B c1 c' w'
          obtain ⟨t0, t1, t2, t3, t4, t5, t6, t7⟩ := ha.r8
          have hz : IntKind.i64.wrap ((i : Int) - 1) = (u : Int) := by rw [IntKind.wrap_i64]; omega
          have l0 : (u : Int) < (rows.length : Int) := by omega
          have l2 : u < rows.length := by omega
          have e4 : decide ((0 : Int) < (i : Int)) = true := decide_eq_true (by omega)
          have e5 : decide (0 < i) = true := decide_eq_true (by omega)
          have HU := Lib.hid hu
          clear hro hAA ha hau hu
          unfold rowVal at CR
          cases hri : riseR a r with
          | false =>
            have HF := Lib.hid (rowsOk_false hlt (show stepOk rows i = false by rw [HU.out, HST.out, hri]))
            rw [hri] at CR
            have CR := Lib.hid CR
            clear hri
            go_region_held (fun w' => (w'.cell? ⟨N, 0, none⟩ = some (.string r.key) ∧ w'.cell? ⟨N, 1, none⟩ = some (.int .i64 r.kind) ∧ w'.cell? ⟨N, 2, none⟩ = some (.int .u64 (r.many : Nat)) ∧ w'.cell? ⟨N, 3, none⟩ = some (.int .i64 r.sum) ∧ w'.cell? ⟨N, 4, none⟩ = some (.int .i64 r.least) ∧ w'.cell? ⟨N, 5, none⟩ = some (.int .i64 r.most) ∧ w'.cell? ⟨N, 6, none⟩ = some (.bool r.over) ∧ w'.cell? ⟨N, 7, none⟩ = some (.slice B r.bks.length c')) ∧ (w'.cell? ⟨b, o + u * 8, none⟩ = some (.string a.key) ∧ w'.cell? ⟨b, o + u * 8 + 1, none⟩ = some (.int .i64 a.kind) ∧ w'.cell? ⟨b, o + u * 8 + 2, none⟩ = some (.int .u64 (a.many : Nat)) ∧ w'.cell? ⟨b, o + u * 8 + 3, none⟩ = some (.int .i64 a.sum) ∧ w'.cell? ⟨b, o + u * 8 + 4, none⟩ = some (.int .i64 a.least) ∧ w'.cell? ⟨b, o + u * 8 + 5, none⟩ = some (.int .i64 a.most) ∧ w'.cell? ⟨b, o + u * 8 + 6, none⟩ = some (.bool a.over) ∧ w'.cell? ⟨b, o + u * 8 + 7, none⟩ = some (.slice B1 a.bks.length c1)))
              (first | exact ⟨R8.below (k := 0) ⟨q0, q1, q2, q3, q4, q5, q6, q7⟩ (below_drew1 _), R8.below ⟨t0, t1, t2, t3, t4, t5, t6, t7⟩ (below_drew1 _)⟩ | exact both_below (by assumption) (by assumption))
              (first
                | ((go_at_call 104; refine CM.out.mono ?_); rintro e w9 ⟨rfl, hb9⟩)
                | ((go_at_call 105; refine (CR.out _).mono ?_); rintro e w8 ⟨rfl, hb8⟩))
            go_wp2
            go_ret
            exact ⟨ret_bool HF.out.symm, ((HB.out.trans ((below_drew1 _).mono HB.out.size)).trans (hb9.mono HB.out.size)).trans (hb8.mono (Nat.le_trans HB.out.size hb9.size))⟩
          | true =>
            have HS : Hid (∀ j, j < i + 1 → stepOk rows j = true) := Lib.hid (fun j hj => by
              rcases Nat.lt_or_ge j i with h | h
              · exact HG.out.1 j h
              · obtain rfl : j = i := by omega
                rw [HU.out, HST.out, hri])
            rw [hri] at CR
            have CR := Lib.hid CR
            clear hri
            go_region_held (fun w' => (w'.cell? ⟨N, 0, none⟩ = some (.string r.key) ∧ w'.cell? ⟨N, 1, none⟩ = some (.int .i64 r.kind) ∧ w'.cell? ⟨N, 2, none⟩ = some (.int .u64 (r.many : Nat)) ∧ w'.cell? ⟨N, 3, none⟩ = some (.int .i64 r.sum) ∧ w'.cell? ⟨N, 4, none⟩ = some (.int .i64 r.least) ∧ w'.cell? ⟨N, 5, none⟩ = some (.int .i64 r.most) ∧ w'.cell? ⟨N, 6, none⟩ = some (.bool r.over) ∧ w'.cell? ⟨N, 7, none⟩ = some (.slice B r.bks.length c')) ∧ (w'.cell? ⟨b, o + u * 8, none⟩ = some (.string a.key) ∧ w'.cell? ⟨b, o + u * 8 + 1, none⟩ = some (.int .i64 a.kind) ∧ w'.cell? ⟨b, o + u * 8 + 2, none⟩ = some (.int .u64 (a.many : Nat)) ∧ w'.cell? ⟨b, o + u * 8 + 3, none⟩ = some (.int .i64 a.sum) ∧ w'.cell? ⟨b, o + u * 8 + 4, none⟩ = some (.int .i64 a.least) ∧ w'.cell? ⟨b, o + u * 8 + 5, none⟩ = some (.int .i64 a.most) ∧ w'.cell? ⟨b, o + u * 8 + 6, none⟩ = some (.bool a.over) ∧ w'.cell? ⟨b, o + u * 8 + 7, none⟩ = some (.slice B1 a.bks.length c1)))
              (first | exact ⟨R8.below (k := 0) ⟨q0, q1, q2, q3, q4, q5, q6, q7⟩ (below_drew1 _), R8.below ⟨t0, t1, t2, t3, t4, t5, t6, t7⟩ (below_drew1 _)⟩ | exact both_below (by assumption) (by assumption))
              (first
                | ((go_at_call 104; refine CM.out.mono ?_); rintro e w9 ⟨rfl, hb9⟩)
                | ((go_at_call 105; refine (CR.out _).mono ?_); rintro e w8 ⟨rfl, hb8⟩))
            go_wp2
            go_roundg g
            case rel => exact ⟨i + 1, by omega, by go_num, Lib.hid ⟨HS.out, ((HB.out.trans ((below_drew1 _).mono HB.out.size)).trans (hb9.mono HB.out.size)).trans (hb8.mono (Nat.le_trans HB.out.size hb9.size))⟩⟩
            case measure => omega

theorem mayOk_of {b : Bt} (h0 : 0 ≤ b.seq) (h1 : b.seq ≤ 2147483647) (h2 : 0 ≤ b.start) (h3 : b.start ≤ 1099511627776) : mayOk b = rowsOk b.rows := by
  unfold mayOk
  rw [decide_eq_true h0, decide_eq_true h1, decide_eq_true h2, decide_eq_true h3]
  simp
theorem mayOk_not {b : Bt} (h : ¬ (0 ≤ b.seq ∧ b.seq ≤ 2147483647 ∧ 0 ≤ b.start ∧ b.start ≤ 1099511627776)) : mayOk b = false := by
  rw [Bool.eq_false_iff]
  intro e
  obtain ⟨h1, h2, h3, h4, _⟩ := mayOk_parts e
  exact h ⟨h1, h2, h3, h4⟩
set_option maxHeartbeats 1000000 in
set_option maxRecDepth 100000 in
theorem batchMay (b : Bt) (A : Option Addr) (c : Nat) (w : World) (hL : Laid w) (hr : RdR w A b.rows) (hz : SizedR b.rows) :
    Calls Tryz.prog 50 #[btVal b.seq b.start A b.rows.length c] w (BB (mayOk b) w) := by
  have B0 := Lib.hid (below_new w (.cells #[.int .i64 b.seq, .int .i64 b.start, .slice A b.rows.length c] 60))
  have CR := Lib.hid (mayRows A c b.rows (w.alloc (.cells #[.int .i64 b.seq, .int .i64 b.start, .slice A b.rows.length c] 60)) (hL.alloc _) (hr.alloc _) hz)
  clear hL hr hz
  unfold btVal
  obtain ⟨s, t, rows⟩ := b
  simp only at *
  by_cases h0 : 0 ≤ s
  case neg =>
    have HE := Lib.hid (mayOk_not (b := ⟨s, t, rows⟩) (fun h => h0 h.1))
    have e1 : decide (0 ≤ s) = false := decide_eq_false h0
    clear CR
    go_enter Tryz.func50, Tryz.ntmps50
    go_wp2
    go_ret
    exact ⟨ret_bool HE.out.symm, B0.out⟩
  by_cases h1 : s ≤ 2147483647
  case neg =>
    have HE := Lib.hid (mayOk_not (b := ⟨s, t, rows⟩) (fun h => h1 h.2.1))
    have e1 : decide (s ≤ 2147483647) = false := decide_eq_false h1
    clear CR
    go_enter Tryz.func50, Tryz.ntmps50
    go_wp2
    go_ret
    exact ⟨ret_bool HE.out.symm, B0.out⟩
  by_cases h2 : 0 ≤ t
  case neg =>
    have HE := Lib.hid (mayOk_not (b := ⟨s, t, rows⟩) (fun h => h2 h.2.2.1))
    have e1 : decide (0 ≤ t) = false := decide_eq_false h2
    clear CR
    go_enter Tryz.func50, Tryz.ntmps50
    go_wp2
    go_ret
    exact ⟨ret_bool HE.out.symm, B0.out⟩
  by_cases h3 : t ≤ 1099511627776
  case neg =>
    have HE := Lib.hid (mayOk_not (b := ⟨s, t, rows⟩) (fun h => h3 h.2.2.2))
    have e1 : decide (t ≤ 1099511627776) = false := decide_eq_false h3
    clear CR
    go_enter Tryz.func50, Tryz.ntmps50
    go_wp2
    go_ret
    exact ⟨ret_bool HE.out.symm, B0.out⟩
  have HE := Lib.hid (mayOk_of (b := ⟨s, t, rows⟩) h0 h1 h2 h3)
  have e1 : decide (0 ≤ s) = true := decide_eq_true h0
  have e2 : decide (s ≤ 2147483647) = true := decide_eq_true h1
  have e3 : decide (0 ≤ t) = true := decide_eq_true h2
  have e4 : decide (t ≤ 1099511627776) = true := decide_eq_true h3
  go_enter Tryz.func50, Tryz.ntmps50
  go_wp2_with fail
  refine CR.out.mono ?_
  rintro e w1 ⟨rfl, hb⟩
  have B1 := Lib.hid (B0.out.trans (hb.mono (by simp)))
  clear hb CR
  go_wp2_with fail
  go_ret
  exact ⟨ret_bool HE.out.symm, B1.out⟩
end Go.Proofs.YtgeahpfdaehjaaaGreatDoor
namespace Go.Proofs.YtgeahpfdaehjaaaGreatDoor
open Go.ChangeShapes Go.WideShapes Go.ChangeAt Go.RowKit
set_option linter.unusedVariables false

def PutBad (w : World) (e : Ending) (w' : World) : Prop := e = .returned (.tuple #[.slice none 0 0, .iface 41 (.int .i64 1)]) ∧ Below w.heap.size w w'
def PutGood (w : World) (l : List UInt8) (e : Ending) (w' : World) : Prop := ∃ v, e = .returned (.tuple #[v, .nilIface]) ∧ OB w' w.heap.size v l ∧ Below w.heap.size w w'
/-- Where the writing of a batch stands. -/
structure Pb (w : World) (b : Bt) (A : Option Addr) (c : Nat) (L : List UInt8) (v : Value) (wr : World) : Prop where
  own : OB wr (w.heap.size + 1) v L
  bt : BtB wr w.heap.size b.seq b.start A b.rows.length c
  below : Below w.heap.size w wr
theorem Pb.size {w wr : World} {b : Bt} {A : Option Addr} {c : Nat} {L : List UInt8} {v : Value} (h : Pb w b A c L v wr) : w.heap.size + 1 ≤ wr.heap.size := h.bt.lt
theorem Pb.on {w wr w' : World} {b : Bt} {A : Option Addr} {c : Nat} {L L' : List UInt8} {v v' : Value} (h : Pb w b A c L v wr) (o : OB w' (w.heap.size + 1) v' L') (hb : Below (w.heap.size + 1) wr w') : Pb w b A c L' v' w' :=
  ⟨o, h.bt.keep hb (Nat.lt_succ_self _), h.below.trans (hb.mono (Nat.le_succ _))⟩
theorem rowsL_len : ∀ rows : List Rw, (∀ r ∈ rows, InR r) → (rowsL rows).length ≤ 1100 * rows.length
  | [], _ => by simp [rowsL]
  | r :: rows, h => by
    have h1 := rowsL_len rows (fun x hx => h x (by simp [hx]))
    have hr := h r (by simp)
    have h2 := rowL_len hr.fit (by have := hr.key; omega) hr.kind0 hr.kind1 (by have := hr.len; omega)
    have h3 := hr.key
    have h4 := hr.len
    have e : rowsL (r :: rows) = rowL r ++ rowsL rows := by simp [rowsL]
    rw [e, List.length_append, List.length_cons]
    omega
theorem putL_len {b : Bt} (h : InB b) : (putL b).length ≤ 230000 := by
  have h1 := rowsL_len b.rows h.rows
  have h2 := enc_length b.seq.toNat (by have := h.seq1; omega)
  have h3 := enc_length b.start.toNat (by have := h.start1; omega)
  have h4 := enc_length b.rows.length (by have := h.len; omega)
  have h5 := h.len
  unfold putL putHead
  simp only [List.length_append]
  omega

set_option maxHeartbeats 2000000 in
set_option maxRecDepth 100000 in
theorem batchPut (b : Bt) (A : Option Addr) (c : Nat) (w : World) (hL : Laid w) (hr : RdR w A b.rows) (hz : SizedR b.rows) (hf : ∀ r ∈ b.rows, FitR r) (hm : mayOk b = true) :
    Calls Tryz.prog 26 #[btVal b.seq b.start A b.rows.length c] w (PutGood w (putL b)) := by
  have hI := mayOk_in hf hm
  obtain ⟨s, hs⟩ : ∃ s : Nat, b.seq = (s : Int) := ⟨b.seq.toNat, by have := hI.seq0; omega⟩
  obtain ⟨t, ht⟩ : ∃ t : Nat, b.start = (t : Int) := ⟨b.start.toNat, by have := hI.start0; omega⟩
  have hall := putL_len hI
  have hpl : putL b = enc s ++ enc t ++ enc b.rows.length ++ rowsL b.rows := by unfold putL putHead; rw [hs, ht, Int.toNat_natCast, Int.toNat_natCast]
  have hs1 : s ≤ 2147483647 := by have := hI.seq1; omega
  have ht1 : t ≤ 1099511627776 := by have := hI.start1; omega
  have hn := hI.len
  have T0 := Lib.hid (BtB.new w b.seq b.start A b.rows.length c)
  have b0 := Lib.hid ((Below.refl w.heap.size w).alloc (Nat.le_refl _) (.cells #[.int .i64 b.seq, .int .i64 b.start, .slice A b.rows.length c] 60))
  have CM := batchMay b A c (w.alloc (.cells #[.int .i64 b.seq, .int .i64 b.start, .slice A b.rows.length c] 60)) (hL.alloc _) (hr.alloc _) hz
  rw [hm] at CM
  have HI := Lib.hid hI
  have HR := Lib.hid hr
  generalize putL b = LL at hall hpl ⊢
  have HP := Lib.hid hpl
  have z1 := enc_length s (by omega)
  have z2 := enc_length t (by omega)
  have z3 := enc_length b.rows.length (by omega)
  unfold btVal at CM ⊢
  rw [hs, ht] at CM T0 b0 ⊢
  have CM := Lib.hid CM
  have HST := Lib.hid (And.intro hs ht)
  clear hL hr hz hf hm hI hpl hs ht
  go_enter Tryz.func26, Tryz.ntmps26
  go_wp2_with fail
  refine CM.out.mono ?_
  rintro e w1 ⟨rfl, b1⟩
  have b1 : Below (w.heap.size + 1) _ w1 := b1.mono (show w.heap.size + 1 ≤ _ by simp)
  have T1 := T0.out.keep b1 (Nat.lt_succ_self _)
  have H1 : Pb w b A c [] (.slice none 0 0) w1 := ⟨OB.nil _ _, by rw [HST.out.1, HST.out.2]; exact T1, b0.out.trans (b1.mono (Nat.le_succ _))⟩
  have HH1 := Lib.hid H1
  have c0 := T1.c0
  have C2 := Lib.hid (batchNumber _ (.slice none 0 0) [] s w1 H1.own H1.size (by simp) (by omega))
  clear b1 T1 H1 CM T0 b0
  go_wp2_with fail
  refine C2.out.mono ?_
  rintro e w2 ⟨v2, rfl, o2, b2⟩
  rw [List.nil_append] at o2
  have H2 := HH1.out.on o2 b2
  generalize hl2 : enc s = L2 at H2 z1
  have HL2 := Lib.hid hl2
  have HH2 := Lib.hid H2
  have c1 := H2.bt.c1
  rw [HST.out.2] at c1
  have C3 := Lib.hid (batchNumber _ v2 L2 t w2 H2.own H2.size (by omega) (by omega))
  clear o2 b2 C2 H2 hl2 HH1 c0
  go_wp2_with fail
  refine C3.out.mono ?_
  rintro e w3 ⟨v3, rfl, o3, b3⟩
  have H3 := HH2.out.on o3 b3
  generalize hl3 : L2 ++ enc t = L3 at H3
  have y3 : L3.length ≤ 20 := by rw [← hl3, List.length_append]; omega
  have HL3 := Lib.hid hl3
  have HH3 := Lib.hid H3
  have c2 := H3.bt.c2
  have C4 := Lib.hid (batchNumber _ v3 L3 b.rows.length w3 H3.own H3.size (by omega) (by omega))
  clear o3 b3 C3 H3 hl3 HH2 c1
  go_wp2_with fail
  refine C4.out.mono ?_
  rintro e w4 ⟨v4, rfl, o4, b4⟩
  have H4 := HH3.out.on o4 b4
  generalize hl4 : L3 ++ enc b.rows.length = L4 at H4
  have HA : Hid (LL = L4 ++ rowsL b.rows) := Lib.hid (by rw [HP.out, HL2.out, HL3.out, hl4])
  have HH4 := Lib.hid H4
  have c2' := H4.bt.c2
  clear o4 b4 C4 H4 hl4 HH3 c2 HL2 HL3 HP z1 z2 z3 y3
  go_wp2_with fail
  go_loopg [4, 30] (b.rows.length) (fun g s4 s30 wx => ∃ (i : Nat) (acc : List UInt8), i + g = b.rows.length ∧ s30 = .int .i64 i ∧ Hid (Pb w b A c acc s4 wx ∧ LL = acc ++ rowsL (b.rows.drop i)))
  case atStart => exact ⟨0, L4, by omega, rfl, Lib.hid ⟨HH4.out, HA.out⟩⟩
  case round =>
    clear HH4 HA c2'
    obtain ⟨i, acc, hig, rfl, HG⟩ := hrel
    cases gk with
    | zero =>
      have e1 : decide ((i : Int) < (b.rows.length : Int)) = false := decide_eq_false (by omega)
      have e2 : decide (i < b.rows.length) = false := decide_eq_false (by omega)
      have HE : Hid (LL = acc) := Lib.hid (by rw [HG.out.2, List.drop_eq_nil_of_le (by omega)]; simp [rowsL])
      go_wp2_with fail
      go_ret2
      exact ⟨_, rfl, by rw [HE.out]; exact ownsB_mono HG.out.1.own (Nat.le_succ _), HG.out.1.below⟩
    | succ g =>
      have hlt : i < b.rows.length := by omega
      have hltz : (i : Int) < (b.rows.length : Int) := by omega
      obtain ⟨r, hri⟩ : ∃ r, b.rows[i]? = some r := ⟨_, List.getElem?_eq_getElem hlt⟩
      have hR := HR.out.below HG.out.1.below (Nat.le_refl _)
      obtain ⟨bb, o, B, c', rfl, ha⟩ := hR.at hri
      have hin := HI.out.rows r (List.mem_of_getElem? hri)
      obtain ⟨k, hk⟩ : ∃ k : Nat, r.kind = (k : Int) := ⟨r.kind.toNat, by have := hin.kind0; omega⟩
      have p0 := ha.p0
      have p1 := ha.p1
      have p2 := ha.p2
      have p3 := ha.p3
      have p4 := ha.p4
      have p5 := ha.p5
      have p6 := ha.p6
      have p7 := ha.p7
      have CB := batchRowBytes r B c' k (wr.alloc (rowObj r B c')) hk (by have := hin.kind1; omega) (ha.bk.alloc _) hin.fit (by have := hin.key; omega) (by have := hin.len; omega)
      unfold rowVal rowObj at CB
      have CB := Lib.hid CB
      have hrl := rowL_len hin.fit (by have := hin.key; omega) hin.kind0 hin.kind1 (by have := hin.len; omega)
      have hk3 := hin.key
      have hb3 := hin.len
      have HX : Hid (LL = (acc ++ rowL r) ++ rowsL (b.rows.drop (i + 1))) := Lib.hid (by
        obtain ⟨h1, h2⟩ := List.getElem?_eq_some_iff.1 hri
        rw [HG.out.2, List.drop_eq_getElem_cons h1, h2]
        simp [rowsL])
      have hac : acc.length ≤ 230000 := by have := congrArg List.length HG.out.2; rw [List.length_append] at this; omega
      have HO := Lib.hid (HG.out.1.own.alloc (.cells #[.string r.key, .int .i64 r.kind, .int .u64 (r.many : Nat), .int .i64 r.sum, .int .i64 r.least, .int .i64 r.most, .bool r.over, .slice B r.bks.length c'] 123))
      have hsz := HG.out.1.size
      have BA := Lib.hid ((Below.refl (w.heap.size + 1) wr).alloc hsz (.cells #[.string r.key, .int .i64 r.kind, .int .u64 (r.many : Nat), .int .i64 r.sum, .int .i64 r.least, .int .i64 r.most, .bool r.over, .slice B r.bks.length c'] 123))
      clear ha hR hin hk hri
      go_wp2_with fail
      refine CB.out.mono ?_
      rintro e w5 ⟨v5, rfl, o5, b5⟩
      obtain ⟨A5, c5, rfl, rd5⟩ := o5.rd
      have b5' : Below (w.heap.size + 1) wr w5 := BA.out.trans (b5.mono (Nat.le_trans hsz (by simp)))
      obtain ⟨v6, w6, r6, o6, g6⟩ := ob_row (HO.out.below b5) rd5 (by omega) (Nat.le_trans hsz b5'.size)
      have R6 := Lib.hid r6
      have H6 := Lib.hid (HG.out.1.on o6 (b5'.trans g6.below))
      clear o5 rd5 b5 b5' r6 o6 g6 CB HO BA p0 p1 p2 p3 p4 p5 p6 p7
      go_wp2_with (at_builtin; refine wpList_append_two rfl (.tmp 34) (.tmp 36) 64 64 rfl _ _ _ rfl rfl R6.out ?_)
      go_roundg g
      case rel => exact ⟨i + 1, acc ++ rowL r, by omega, by go_num, Lib.hid ⟨H6.out, HX.out⟩⟩
      case measure => omega

set_option maxRecDepth 100000 in
theorem batchPutBad (b : Bt) (A : Option Addr) (c : Nat) (w : World) (hL : Laid w) (hr : RdR w A b.rows) (hz : SizedR b.rows) (hm : mayOk b = false) :
    Calls Tryz.prog 26 #[btVal b.seq b.start A b.rows.length c] w (PutBad w) := by
  have b0 := Lib.hid ((Below.refl w.heap.size w).alloc (Nat.le_refl _) (.cells #[.int .i64 b.seq, .int .i64 b.start, .slice A b.rows.length c] 60))
  have CM := batchMay b A c (w.alloc (.cells #[.int .i64 b.seq, .int .i64 b.start, .slice A b.rows.length c] 60)) (hL.alloc _) (hr.alloc _) hz
  rw [hm] at CM
  unfold btVal at CM ⊢
  have CM := Lib.hid CM
  clear hL hr hz hm
  go_enter Tryz.func26, Tryz.ntmps26
  go_wp2_with fail
  refine CM.out.mono ?_
  rintro e w1 ⟨rfl, b1⟩
  have B1 := Lib.hid (b0.out.trans (b1.mono (by simp)))
  clear b1 CM b0
  go_wp2_with fail
  go_ret2
  exact ⟨rfl, B1.out⟩
end Go.Proofs.YtgeahpfdaehjaaaGreatDoor
