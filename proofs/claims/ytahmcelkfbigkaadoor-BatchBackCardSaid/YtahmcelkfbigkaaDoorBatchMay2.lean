/-
  Layer 7 (batch): May and what it calls: whether rows, and a batch, may be.
-/
import Derived.Test.YtahmcelkfbigkaaDoorBatchMay
namespace Go.Proofs.YtahmcelkfbigkaaDoor
open Go.ChangeShapes Go.WideShapes Go.ChangeAt Go.RowKit Go.Sort
set_option linter.unusedVariables false

def SizedR (rows : List Rw) : Prop := rows.length ≤ 4611686018427387904 ∧ ∀ r ∈ rows, r.key.size ≤ 9223372036854775807 ∧ r.bks.length ≤ 4611686018427387904
theorem cell_below {w1 w2 : World} {b o : Nat} {v : Value} (h : w1.cell? ⟨b, o, none⟩ = some v) (hb : Below w1.heap.size w1 w2) : w2.cell? ⟨b, o, none⟩ = some v := by
  rw [hb.cell (World.block_lt_of_cell? w1 _ h)]; exact h
/-- Take number i first, where its guard is false: its temporary holds nothing. -/
theorem takeSkip {P : Program} {md : Region.Mode} {ops : Array Oper} {Q : Exit → Act → World → Prop} {S : World → Prop} (i d : Nat) {oi : Oper} {fuel : Nat} {listed : Array Bool} {a : Act} {w : World} (hi : ops[i]? = some oi) (hd : oi.dst = some d)
    (hs : Region.noSelect ops = true) (hf : Region.free md ops listed i = true) (hr : (Region.ready md ops listed).contains i = true)
    (hQ : ∀ c a w, Q (.panic c) (a.put (some d) undef) w → Q (.panic c) a w) (hw : Region.wanted oi (yielded ops a.tmps) = false) (hS : S w)
    (h : wpAnyH P md ops Q S fuel (listed.setIfInBounds i true) (a.put (some d) undef) w) : wpAnyH P md ops Q S (fuel + 1) listed a w := by
  rw [← hd] at hQ h
  exact wpAnyH_take hi hs hf hr hQ (Or.inr ⟨hw, rfl⟩) hS h
/-- Take number i first, where its guard is true, or it has none. -/
theorem takeWanted {P : Program} {md : Region.Mode} {ops : Array Oper} {Q : Exit → Act → World → Prop} {S : World → Prop} (i d : Nat) {oi : Oper} {v : Value} {fuel : Nat} {listed : Array Bool} {a : Act} {w : World} (hi : ops[i]? = some oi) (hd : oi.dst = some d)
    (hs : Region.noSelect ops = true) (hf : Region.free md ops listed i = true) (hr : (Region.ready md ops listed).contains i = true)
    (hQ : ∀ c a w, Q (.panic c) (a.put (some d) v) w → Q (.panic c) a w) (hw : Region.wanted oi (yielded ops a.tmps) = true) (hy : ∀ w, S w → (execOp a.eval oi).run P w = .ok (.value v) w) (hS : S w)
    (h : wpAnyH P md ops Q S fuel (listed.setIfInBounds i true) (a.put (some d) v) w) : wpAnyH P md ops Q S (fuel + 1) listed a w := by
  rw [← hd] at hQ h
  exact wpAnyH_take hi hs hf hr hQ (Or.inl ⟨hw, hy⟩) hS h
/-- A row's eight cells. -/
def R8 (w' : World) (N k : Nat) (r : Rw) (B : Option Addr) (c' : Nat) : Prop := w'.cell? ⟨N, k, none⟩ = some (.string r.key) ∧ w'.cell? ⟨N, k + 1, none⟩ = some (.int .i64 r.kind) ∧ w'.cell? ⟨N, k + 2, none⟩ = some (.int .u64 (r.many : Nat)) ∧ w'.cell? ⟨N, k + 3, none⟩ = some (.int .i64 r.sum) ∧ w'.cell? ⟨N, k + 4, none⟩ = some (.int .i64 r.least) ∧ w'.cell? ⟨N, k + 5, none⟩ = some (.int .i64 r.most) ∧ w'.cell? ⟨N, k + 6, none⟩ = some (.bool r.over) ∧ w'.cell? ⟨N, k + 7, none⟩ = some (.slice B r.bks.length c')
theorem RowAt.r8 {w : World} {b k : Nat} {r : Rw} {B : Option Addr} {c : Nat} (h : RowAt w b k r B c) : R8 w b k r B c := ⟨h.p0, h.p1, h.p2, h.p3, h.p4, h.p5, h.p6, h.p7⟩
theorem R8.below {w w' : World} {b k : Nat} {r : Rw} {B : Option Addr} {c : Nat} (h : R8 w b k r B c) (hb : Below w.heap.size w w') : R8 w' b k r B c :=
  ⟨cell_below h.1 hb, cell_below h.2.1 hb, cell_below h.2.2.1 hb, cell_below h.2.2.2.1 hb, cell_below h.2.2.2.2.1 hb, cell_below h.2.2.2.2.2.1 hb, cell_below h.2.2.2.2.2.2.1 hb, cell_below h.2.2.2.2.2.2.2 hb⟩
theorem RowB.r8 {w : World} {g : Nat} {r : Rw} {B : Option Addr} {c : Nat} (h : RowB w g r B c) : R8 w g 0 r B c := ⟨h.c0, h.c1, h.c2, h.c3, h.c4, h.c5, h.c6, h.c7⟩

theorem both_below {w w' : World} {N b k : Nat} {r a : Rw} {B B1 : Option Addr} {c' c1 : Nat} (h : (w.cell? ⟨N, 0, none⟩ = some (.string r.key) ∧ w.cell? ⟨N, 1, none⟩ = some (.int .i64 r.kind) ∧ w.cell? ⟨N, 2, none⟩ = some (.int .u64 (r.many : Nat)) ∧ w.cell? ⟨N, 3, none⟩ = some (.int .i64 r.sum) ∧ w.cell? ⟨N, 4, none⟩ = some (.int .i64 r.least) ∧ w.cell? ⟨N, 5, none⟩ = some (.int .i64 r.most) ∧ w.cell? ⟨N, 6, none⟩ = some (.bool r.over) ∧ w.cell? ⟨N, 7, none⟩ = some (.slice B r.bks.length c')) ∧ (w.cell? ⟨b, k, none⟩ = some (.string a.key) ∧ w.cell? ⟨b, k + 1, none⟩ = some (.int .i64 a.kind) ∧ w.cell? ⟨b, k + 2, none⟩ = some (.int .u64 (a.many : Nat)) ∧ w.cell? ⟨b, k + 3, none⟩ = some (.int .i64 a.sum) ∧ w.cell? ⟨b, k + 4, none⟩ = some (.int .i64 a.least) ∧ w.cell? ⟨b, k + 5, none⟩ = some (.int .i64 a.most) ∧ w.cell? ⟨b, k + 6, none⟩ = some (.bool a.over) ∧ w.cell? ⟨b, k + 7, none⟩ = some (.slice B1 a.bks.length c1))) (hb : Below w.heap.size w w') : (w'.cell? ⟨N, 0, none⟩ = some (.string r.key) ∧ w'.cell? ⟨N, 1, none⟩ = some (.int .i64 r.kind) ∧ w'.cell? ⟨N, 2, none⟩ = some (.int .u64 (r.many : Nat)) ∧ w'.cell? ⟨N, 3, none⟩ = some (.int .i64 r.sum) ∧ w'.cell? ⟨N, 4, none⟩ = some (.int .i64 r.least) ∧ w'.cell? ⟨N, 5, none⟩ = some (.int .i64 r.most) ∧ w'.cell? ⟨N, 6, none⟩ = some (.bool r.over) ∧ w'.cell? ⟨N, 7, none⟩ = some (.slice B r.bks.length c')) ∧ (w'.cell? ⟨b, k, none⟩ = some (.string a.key) ∧ w'.cell? ⟨b, k + 1, none⟩ = some (.int .i64 a.kind) ∧ w'.cell? ⟨b, k + 2, none⟩ = some (.int .u64 (a.many : Nat)) ∧ w'.cell? ⟨b, k + 3, none⟩ = some (.int .i64 a.sum) ∧ w'.cell? ⟨b, k + 4, none⟩ = some (.int .i64 a.least) ∧ w'.cell? ⟨b, k + 5, none⟩ = some (.int .i64 a.most) ∧ w'.cell? ⟨b, k + 6, none⟩ = some (.bool a.over) ∧ w'.cell? ⟨b, k + 7, none⟩ = some (.slice B1 a.bks.length c1)) := ⟨R8.below (k := 0) h.1 hb, R8.below h.2 hb⟩
set_option maxHeartbeats 4000000 in
set_option maxRecDepth 100000 in
theorem mayRows (A : Option Addr) (c : Nat) (rows : List Rw) (w : World) (hL : Laid w) (hr : RdR w A rows) (hz : SizedR rows) :
    Calls Tryd.prog 18 #[.slice A rows.length c] w (BB (rowsOk rows) w) := by
  have HL := Lib.hid hL
  have HR := Lib.hid hr
  have HZ := Lib.hid hz
  have hlz := hz.1
  clear hL hr hz
  by_cases h200 : rows.length ≤ 200
  case neg =>
    have HE := Lib.hid (rowsOk_many h200)
    have e1 : decide ((200 : Int) < rows.length) = true := decide_eq_true (by omega)
    go_enter Tryd.func18, Tryd.ntmps18
    go_wp2
    go_ret
    exact ⟨ret_bool HE.out.symm, Below.refl _ _⟩
  have e1 : decide ((200 : Int) < rows.length) = false := decide_eq_false (by omega)
  go_enter Tryd.func18, Tryd.ntmps18
  go_wp2
  go_loopg [10] (rows.length) (fun g s10 wx => ∃ i : Nat, i + g = rows.length ∧ s10 = .int .i64 i ∧ Hid ((∀ j, j < i → stepOk rows j = true) ∧ Below w.heap.size w wx))
  case atStart => exact ⟨0, by omega, rfl, Lib.hid ⟨fun j hj => by omega, Below.refl _ _⟩⟩
  case round =>
    obtain ⟨i, hig, rfl, HG⟩ := hrel
    cases gk with
    | zero =>
      have e2 : decide ((i : Int) < (rows.length : Int)) = false := decide_eq_false (by omega)
      have e3 : decide (i < rows.length) = false := decide_eq_false (by omega)
      have HT := Lib.hid (rowsOk_true h200 (fun j hj => HG.out.1 j (by omega)))
      go_wp2
      go_ret
      exact ⟨ret_bool HT.out.symm, HG.out.2⟩
    | succ g =>
      have hlt : i < rows.length := by omega
      have hltz : (i : Int) < (rows.length : Int) := by omega
      obtain ⟨r, hri⟩ : ∃ r, rows[i]? = some r := ⟨_, List.getElem?_eq_getElem hlt⟩
      have hR := HR.out.below HG.out.2 (Nat.le_refl _)
      obtain ⟨b, o, B, c', rfl, ha⟩ := hR.at hri
      have p0 := ha.p0
      have p1 := ha.p1
      have p2 := ha.p2
      have p3 := ha.p3
      have p4 := ha.p4
      have p5 := ha.p5
      have p6 := ha.p6
      have p7 := ha.p7
      obtain ⟨sk, sb⟩ := HZ.out.2 r (List.mem_of_getElem? hri)
      have HRI := Lib.hid hri
      have HBK := Lib.hid ha.bk
      have HRR := Lib.hid hR
      clear ha hR hri
      go_wp2
      have HN := RowB.new wr r B c'
      have HB := Lib.hid (HG.out.2.trans ((below_new wr (rowObj r B c')).mono HG.out.2.size))
      have HK := Lib.hid (HBK.out.alloc (rowObj r B c'))
      have HR2 := Lib.hid (HRR.out.alloc (rowObj r B c'))
      unfold rowObj at HN HB HK HR2
      obtain ⟨W, hW⟩ : ∃ W, W = wr.alloc (.cells #[.string r.key, .int .i64 r.kind, .int .u64 (r.many : Nat), .int .i64 r.sum, .int .i64 r.least, .int .i64 r.most, .bool r.over, .slice B r.bks.length c'] 44) := ⟨_, rfl⟩
      rw [← hW] at HN HB HK HR2 ⊢
      have q := HN.r8
      have hL2 := HL.out.below HB.out
      have CM := mayRow r B c' W.drew (hL2.below (below_drew1 _)) (HK.out.below (below_drew1 _) (Nat.le_refl _)) sb sk
      clear hW p0 p1 p2 p3 p4 p5 p6 p7 HN HK hL2 HBK HRR
      generalize wr.heap.size = N at *
      obtain ⟨q0, q1, q2, q3, q4, q5, q6, q7⟩ := q
      unfold rowVal at CM
      cases hro : rowOk r with
      | false =>
        have HF := Lib.hid (rowsOk_false hlt (step_row HRI.out hro))
        rw [hro] at CM
        have CM := Lib.hid CM
        clear hro
        refine wp_region_held_drew (S := fun w' => w'.cell? ⟨N, 0, none⟩ = some (.string r.key) ∧ w'.cell? ⟨N, 1, none⟩ = some (.int .i64 r.kind) ∧ w'.cell? ⟨N, 2, none⟩ = some (.int .u64 (r.many : Nat)) ∧ w'.cell? ⟨N, 3, none⟩ = some (.int .i64 r.sum) ∧ w'.cell? ⟨N, 4, none⟩ = some (.int .i64 r.least) ∧ w'.cell? ⟨N, 5, none⟩ = some (.int .i64 r.most) ∧ w'.cell? ⟨N, 6, none⟩ = some (.bool r.over) ∧ w'.cell? ⟨N, 7, none⟩ = some (.slice B r.bks.length c')) (by kernel_rfl) (by exact R8.below (k := 0) ⟨q0, q1, q2, q3, q4, q5, q6, q7⟩ (below_drew1 _)) (fun hHeld0 => ?_)
        refine takeWanted 0 15 (v := ?vv0) rfl rfl (by kernel_rfl) (by kernel_rfl) (by kernel_rfl) (fun _ _ _ h => h) (by kernel_rfl) ?hy0 (by assumption) ?rest0
        case hy0 => (intro wq hSw; (try dsimp only at hSw); go_simp <;> with_reducible rfl)
        simp only [Act.put, List.setIfInBounds_toArray, List.set_cons_zero, List.set_cons_succ]
        refine wpAnyH_ready (rs := [1]) (by kernel_rfl) (by simp) ?_
        refine AllReadyH.cons rfl (fun K hK => ?_) AllReadyH.nil
        go_simp
        go_wp2_with ((go_at_call 35; refine CM.out.mono ?_); rintro e w9 ⟨rfl, hb9⟩)
        refine hK.out _ _ (by exact R8.below (k := 0) (by assumption) (by assumption)) (fun hHeld => ?_)
        clear hK K hHeld0
        refine takeWanted 2 17 (v := ?vv2) rfl rfl (by kernel_rfl) (by kernel_rfl) (by kernel_rfl) (fun _ _ _ h => h) (by kernel_rfl) ?hy2 (by assumption) ?rest2
        case hy2 => (intro wq hSw; (try dsimp only at hSw); go_simp <;> with_reducible rfl)
        simp only [Act.put, List.setIfInBounds_toArray, List.set_cons_zero, List.set_cons_succ]
        refine takeWanted 3 18 (v := ?vv3) rfl rfl (by kernel_rfl) (by kernel_rfl) (by kernel_rfl) (fun _ _ _ h => h) (by kernel_rfl) ?hy3 (by assumption) ?rest3
        case hy3 => (intro wq hSw; (try dsimp only at hSw); go_simp <;> with_reducible rfl)
        simp only [Act.put, List.setIfInBounds_toArray, List.set_cons_zero, List.set_cons_succ]
        refine takeSkip 4 19 rfl rfl (by kernel_rfl) (by kernel_rfl) (by kernel_rfl) (fun _ _ _ h => h) (by kernel_rfl) (by assumption) ?_
        simp only [Act.put, List.setIfInBounds_toArray, List.set_cons_zero, List.set_cons_succ]
        refine takeSkip 5 20 rfl rfl (by kernel_rfl) (by kernel_rfl) (by kernel_rfl) (fun _ _ _ h => h) (by kernel_rfl) (by assumption) ?_
        simp only [Act.put, List.setIfInBounds_toArray, List.set_cons_zero, List.set_cons_succ]
        refine takeSkip 6 21 rfl rfl (by kernel_rfl) (by kernel_rfl) (by kernel_rfl) (fun _ _ _ h => h) (by kernel_rfl) (by assumption) ?_
        simp only [Act.put, List.setIfInBounds_toArray, List.set_cons_zero, List.set_cons_succ]
        refine takeSkip 7 22 rfl rfl (by kernel_rfl) (by kernel_rfl) (by kernel_rfl) (fun _ _ _ h => h) (by kernel_rfl) (by assumption) ?_
        simp only [Act.put, List.setIfInBounds_toArray, List.set_cons_zero, List.set_cons_succ]
        refine takeSkip 8 23 rfl rfl (by kernel_rfl) (by kernel_rfl) (by kernel_rfl) (fun _ _ _ h => h) (by kernel_rfl) (by assumption) ?_
        simp only [Act.put, List.setIfInBounds_toArray, List.set_cons_zero, List.set_cons_succ]
        refine takeSkip 9 24 rfl rfl (by kernel_rfl) (by kernel_rfl) (by kernel_rfl) (fun _ _ _ h => h) (by kernel_rfl) (by assumption) ?_
        simp only [Act.put, List.setIfInBounds_toArray, List.set_cons_zero, List.set_cons_succ]
        refine takeSkip 10 25 rfl rfl (by kernel_rfl) (by kernel_rfl) (by kernel_rfl) (fun _ _ _ h => h) (by kernel_rfl) (by assumption) ?_
        simp only [Act.put, List.setIfInBounds_toArray, List.set_cons_zero, List.set_cons_succ]
        refine takeSkip 11 26 rfl rfl (by kernel_rfl) (by kernel_rfl) (by kernel_rfl) (fun _ _ _ h => h) (by kernel_rfl) (by assumption) ?_
        simp only [Act.put, List.setIfInBounds_toArray, List.set_cons_zero, List.set_cons_succ]
        refine takeSkip 12 27 rfl rfl (by kernel_rfl) (by kernel_rfl) (by kernel_rfl) (fun _ _ _ h => h) (by kernel_rfl) (by assumption) ?_
        simp only [Act.put, List.setIfInBounds_toArray, List.set_cons_zero, List.set_cons_succ]
        refine takeSkip 13 28 rfl rfl (by kernel_rfl) (by kernel_rfl) (by kernel_rfl) (fun _ _ _ h => h) (by kernel_rfl) (by assumption) ?_
        simp only [Act.put, List.setIfInBounds_toArray, List.set_cons_zero, List.set_cons_succ]
        refine takeSkip 14 29 rfl rfl (by kernel_rfl) (by kernel_rfl) (by kernel_rfl) (fun _ _ _ h => h) (by kernel_rfl) (by assumption) ?_
        simp only [Act.put, List.setIfInBounds_toArray, List.set_cons_zero, List.set_cons_succ]
        refine takeSkip 15 30 rfl rfl (by kernel_rfl) (by kernel_rfl) (by kernel_rfl) (fun _ _ _ h => h) (by kernel_rfl) (by assumption) ?_
        simp only [Act.put, List.setIfInBounds_toArray, List.set_cons_zero, List.set_cons_succ]
        refine takeWanted 16 31 (v := ?vv16) rfl rfl (by kernel_rfl) (by kernel_rfl) (by kernel_rfl) (fun _ _ _ h => h) (by kernel_rfl) ?hy16 (by assumption) ?rest16
        case hy16 => (intro wq hSw; (try dsimp only at hSw); go_simp <;> with_reducible rfl)
        simp only [Act.put, List.setIfInBounds_toArray, List.set_cons_zero, List.set_cons_succ]
        refine wpAnyH_done (by kernel_rfl) ?_ _
        clear hHeld
        go_wp2
        go_ret
        exact ⟨ret_bool HF.out.symm, (HB.out.trans ((below_drew1 _).mono HB.out.size)).trans (hb9.mono HB.out.size)⟩
      | true =>
        rw [hro] at CM
        have CM := Lib.hid CM
        rcases Nat.eq_zero_or_pos i with hi0 | hi0
        · have HS : Hid (∀ j, j < i + 1 → stepOk rows j = true) := Lib.hid (fun j hj => by
            obtain rfl : j = 0 := by omega
            exact step_first (by rw [← hi0]; exact HRI.out) hro)
          have e4 : decide ((0 : Int) < (i : Int)) = false := decide_eq_false (by omega)
          have e5 : decide (0 < i) = false := decide_eq_false (by omega)
          clear hro hi0
          refine wp_region_held_drew (S := fun w' => w'.cell? ⟨N, 0, none⟩ = some (.string r.key) ∧ w'.cell? ⟨N, 1, none⟩ = some (.int .i64 r.kind) ∧ w'.cell? ⟨N, 2, none⟩ = some (.int .u64 (r.many : Nat)) ∧ w'.cell? ⟨N, 3, none⟩ = some (.int .i64 r.sum) ∧ w'.cell? ⟨N, 4, none⟩ = some (.int .i64 r.least) ∧ w'.cell? ⟨N, 5, none⟩ = some (.int .i64 r.most) ∧ w'.cell? ⟨N, 6, none⟩ = some (.bool r.over) ∧ w'.cell? ⟨N, 7, none⟩ = some (.slice B r.bks.length c')) (by kernel_rfl) (by exact R8.below (k := 0) ⟨q0, q1, q2, q3, q4, q5, q6, q7⟩ (below_drew1 _)) (fun hHeld0 => ?_)
          refine takeWanted 0 15 (v := ?vw0) rfl rfl (by kernel_rfl) (by kernel_rfl) (by kernel_rfl) (fun _ _ _ h => h) (by kernel_rfl) ?hw0 (by assumption) ?resw0
          case hw0 => (intro wq hSw; (try dsimp only at hSw); go_simp <;> with_reducible rfl)
          simp only [Act.put, List.setIfInBounds_toArray, List.set_cons_zero, List.set_cons_succ]
          refine wpAnyH_ready (rs := [1]) (by kernel_rfl) (by simp) ?_
          refine AllReadyH.cons rfl (fun K hK => ?_) AllReadyH.nil
          go_simp
          go_wp2_with ((go_at_call 35; refine CM.out.mono ?_); rintro e w9 ⟨rfl, hb9⟩)
          refine hK.out _ _ (by exact R8.below (k := 0) (by assumption) (by assumption)) (fun hHeld => ?_)
          clear hK K hHeld0
          refine takeWanted 2 17 (v := ?vw2) rfl rfl (by kernel_rfl) (by kernel_rfl) (by kernel_rfl) (fun _ _ _ h => h) (by kernel_rfl) ?hw2 (by assumption) ?resw2
          case hw2 => (intro wq hSw; (try dsimp only at hSw); go_simp <;> with_reducible rfl)
          simp only [Act.put, List.setIfInBounds_toArray, List.set_cons_zero, List.set_cons_succ]
          refine takeWanted 3 18 (v := ?vw3) rfl rfl (by kernel_rfl) (by kernel_rfl) (by kernel_rfl) (fun _ _ _ h => h) (by kernel_rfl) ?hw3 (by assumption) ?resw3
          case hw3 => (intro wq hSw; (try dsimp only at hSw); go_simp <;> with_reducible rfl)
          simp only [Act.put, List.setIfInBounds_toArray, List.set_cons_zero, List.set_cons_succ]
          refine takeWanted 4 19 (v := ?vw4) rfl rfl (by kernel_rfl) (by kernel_rfl) (by kernel_rfl) (fun _ _ _ h => h) (by kernel_rfl) ?hw4 (by assumption) ?resw4
          case hw4 => (intro wq hSw; (try dsimp only at hSw); go_simp <;> with_reducible rfl)
          simp only [Act.put, List.setIfInBounds_toArray, List.set_cons_zero, List.set_cons_succ]
          refine takeWanted 5 20 (v := ?vw5) rfl rfl (by kernel_rfl) (by kernel_rfl) (by kernel_rfl) (fun _ _ _ h => h) (by kernel_rfl) ?hw5 (by assumption) ?resw5
          case hw5 => (intro wq hSw; (try dsimp only at hSw); go_simp <;> with_reducible rfl)
          simp only [Act.put, List.setIfInBounds_toArray, List.set_cons_zero, List.set_cons_succ]
          refine takeWanted 6 21 (v := ?vw6) rfl rfl (by kernel_rfl) (by kernel_rfl) (by kernel_rfl) (fun _ _ _ h => h) (by kernel_rfl) ?hw6 (by assumption) ?resw6
          case hw6 => (intro wq hSw; (try dsimp only at hSw); go_simp <;> with_reducible rfl)
          simp only [Act.put, List.setIfInBounds_toArray, List.set_cons_zero, List.set_cons_succ]
          refine takeSkip 7 22 rfl rfl (by kernel_rfl) (by kernel_rfl) (by kernel_rfl) (fun _ _ _ h => h) (by kernel_rfl) (by assumption) ?_
          simp only [Act.put, List.setIfInBounds_toArray, List.set_cons_zero, List.set_cons_succ]
          refine takeSkip 8 23 rfl rfl (by kernel_rfl) (by kernel_rfl) (by kernel_rfl) (fun _ _ _ h => h) (by kernel_rfl) (by assumption) ?_
          simp only [Act.put, List.setIfInBounds_toArray, List.set_cons_zero, List.set_cons_succ]
          refine takeSkip 9 24 rfl rfl (by kernel_rfl) (by kernel_rfl) (by kernel_rfl) (fun _ _ _ h => h) (by kernel_rfl) (by assumption) ?_
          simp only [Act.put, List.setIfInBounds_toArray, List.set_cons_zero, List.set_cons_succ]
          refine takeSkip 10 25 rfl rfl (by kernel_rfl) (by kernel_rfl) (by kernel_rfl) (fun _ _ _ h => h) (by kernel_rfl) (by assumption) ?_
          simp only [Act.put, List.setIfInBounds_toArray, List.set_cons_zero, List.set_cons_succ]
          refine takeSkip 11 26 rfl rfl (by kernel_rfl) (by kernel_rfl) (by kernel_rfl) (fun _ _ _ h => h) (by kernel_rfl) (by assumption) ?_
          simp only [Act.put, List.setIfInBounds_toArray, List.set_cons_zero, List.set_cons_succ]
          refine takeSkip 12 27 rfl rfl (by kernel_rfl) (by kernel_rfl) (by kernel_rfl) (fun _ _ _ h => h) (by kernel_rfl) (by assumption) ?_
          simp only [Act.put, List.setIfInBounds_toArray, List.set_cons_zero, List.set_cons_succ]
          refine takeSkip 13 28 rfl rfl (by kernel_rfl) (by kernel_rfl) (by kernel_rfl) (fun _ _ _ h => h) (by kernel_rfl) (by assumption) ?_
          simp only [Act.put, List.setIfInBounds_toArray, List.set_cons_zero, List.set_cons_succ]
          refine takeSkip 14 29 rfl rfl (by kernel_rfl) (by kernel_rfl) (by kernel_rfl) (fun _ _ _ h => h) (by kernel_rfl) (by assumption) ?_
          simp only [Act.put, List.setIfInBounds_toArray, List.set_cons_zero, List.set_cons_succ]
          refine takeWanted 15 30 (v := ?vw15) rfl rfl (by kernel_rfl) (by kernel_rfl) (by kernel_rfl) (fun _ _ _ h => h) (by kernel_rfl) ?hw15 (by assumption) ?resw15
          case hw15 => (intro wq hSw; (try dsimp only at hSw); go_simp <;> with_reducible rfl)
          simp only [Act.put, List.setIfInBounds_toArray, List.set_cons_zero, List.set_cons_succ]
          refine takeWanted 16 31 (v := ?vw16) rfl rfl (by kernel_rfl) (by kernel_rfl) (by kernel_rfl) (fun _ _ _ h => h) (by kernel_rfl) ?hw16 (by assumption) ?resw16
          case hw16 => (intro wq hSw; (try dsimp only at hSw); go_simp <;> with_reducible rfl)
          simp only [Act.put, List.setIfInBounds_toArray, List.set_cons_zero, List.set_cons_succ]
          refine wpAnyH_done (by kernel_rfl) ?_ _
          clear hHeld
          go_wp2
          go_roundg g
          case rel => exact ⟨i + 1, by omega, by go_num, Lib.hid ⟨HS.out, (HB.out.trans ((below_drew1 _).mono HB.out.size)).trans (hb9.mono HB.out.size)⟩⟩
          case measure => omega
        · obtain ⟨u, hu⟩ : ∃ u, i = u + 1 := ⟨i - 1, by omega⟩
          obtain ⟨a, hau⟩ : ∃ a, rows[u]? = some a := ⟨_, List.getElem?_eq_getElem (by omega)⟩
          have HST := Lib.hid (step_next hau (by rw [← hu]; exact HRI.out) hro)
          obtain ⟨b', o', B1, c1, hAA, ha⟩ := HR2.out.at hau
          obtain ⟨rfl, rfl⟩ : b = b' ∧ o = o' := by cases hAA; exact ⟨rfl, rfl⟩
          have CR := fun w' => batchRise a r B1 B c1 c' w'
          obtain ⟨t0, t1, t2, t3, t4, t5, t6, t7⟩ := ha.r8
          have hz : IntKind.i64.wrap ((i : Int) - 1) = (u : Int) := by rw [IntKind.wrap_i64]; omega
          have l0 : (u : Int) < (rows.length : Int) := by omega
          have l2 : u < rows.length := by omega
          have e4 : decide ((0 : Int) < (i : Int)) = true := decide_eq_true (by omega)
          have e5 : decide (0 < i) = true := decide_eq_true (by omega)
          have HU := Lib.hid hu
          clear hro hAA ha hau hu
          unfold rowVal at CR
          cases hri : riseR a r with
          | false =>
            have HF := Lib.hid (rowsOk_false hlt (show stepOk rows i = false by rw [HU.out, HST.out, hri]))
            rw [hri] at CR
            have CR := Lib.hid CR
            clear hri
            go_region_held (fun w' => (w'.cell? ⟨N, 0, none⟩ = some (.string r.key) ∧ w'.cell? ⟨N, 1, none⟩ = some (.int .i64 r.kind) ∧ w'.cell? ⟨N, 2, none⟩ = some (.int .u64 (r.many : Nat)) ∧ w'.cell? ⟨N, 3, none⟩ = some (.int .i64 r.sum) ∧ w'.cell? ⟨N, 4, none⟩ = some (.int .i64 r.least) ∧ w'.cell? ⟨N, 5, none⟩ = some (.int .i64 r.most) ∧ w'.cell? ⟨N, 6, none⟩ = some (.bool r.over) ∧ w'.cell? ⟨N, 7, none⟩ = some (.slice B r.bks.length c')) ∧ (w'.cell? ⟨b, o + u * 8, none⟩ = some (.string a.key) ∧ w'.cell? ⟨b, o + u * 8 + 1, none⟩ = some (.int .i64 a.kind) ∧ w'.cell? ⟨b, o + u * 8 + 2, none⟩ = some (.int .u64 (a.many : Nat)) ∧ w'.cell? ⟨b, o + u * 8 + 3, none⟩ = some (.int .i64 a.sum) ∧ w'.cell? ⟨b, o + u * 8 + 4, none⟩ = some (.int .i64 a.least) ∧ w'.cell? ⟨b, o + u * 8 + 5, none⟩ = some (.int .i64 a.most) ∧ w'.cell? ⟨b, o + u * 8 + 6, none⟩ = some (.bool a.over) ∧ w'.cell? ⟨b, o + u * 8 + 7, none⟩ = some (.slice B1 a.bks.length c1)))
              (first | exact ⟨R8.below (k := 0) ⟨q0, q1, q2, q3, q4, q5, q6, q7⟩ (below_drew1 _), R8.below ⟨t0, t1, t2, t3, t4, t5, t6, t7⟩ (below_drew1 _)⟩ | exact both_below (by assumption) (by assumption))
              (first
                | ((go_at_call 35; refine CM.out.mono ?_); rintro e w9 ⟨rfl, hb9⟩)
                | ((go_at_call 36; refine (CR.out _).mono ?_); rintro e w8 ⟨rfl, hb8⟩))
            go_wp2
            go_ret
            exact ⟨ret_bool HF.out.symm, ((HB.out.trans ((below_drew1 _).mono HB.out.size)).trans (hb9.mono HB.out.size)).trans (hb8.mono (Nat.le_trans HB.out.size hb9.size))⟩
          | true =>
            have HS : Hid (∀ j, j < i + 1 → stepOk rows j = true) := Lib.hid (fun j hj => by
              rcases Nat.lt_or_ge j i with h | h
              · exact HG.out.1 j h
              · obtain rfl : j = i := by omega
                rw [HU.out, HST.out, hri])
            rw [hri] at CR
            have CR := Lib.hid CR
            clear hri
            go_region_held (fun w' => (w'.cell? ⟨N, 0, none⟩ = some (.string r.key) ∧ w'.cell? ⟨N, 1, none⟩ = some (.int .i64 r.kind) ∧ w'.cell? ⟨N, 2, none⟩ = some (.int .u64 (r.many : Nat)) ∧ w'.cell? ⟨N, 3, none⟩ = some (.int .i64 r.sum) ∧ w'.cell? ⟨N, 4, none⟩ = some (.int .i64 r.least) ∧ w'.cell? ⟨N, 5, none⟩ = some (.int .i64 r.most) ∧ w'.cell? ⟨N, 6, none⟩ = some (.bool r.over) ∧ w'.cell? ⟨N, 7, none⟩ = some (.slice B r.bks.length c')) ∧ (w'.cell? ⟨b, o + u * 8, none⟩ = some (.string a.key) ∧ w'.cell? ⟨b, o + u * 8 + 1, none⟩ = some (.int .i64 a.kind) ∧ w'.cell? ⟨b, o + u * 8 + 2, none⟩ = some (.int .u64 (a.many : Nat)) ∧ w'.cell? ⟨b, o + u * 8 + 3, none⟩ = some (.int .i64 a.sum) ∧ w'.cell? ⟨b, o + u * 8 + 4, none⟩ = some (.int .i64 a.least) ∧ w'.cell? ⟨b, o + u * 8 + 5, none⟩ = some (.int .i64 a.most) ∧ w'.cell? ⟨b, o + u * 8 + 6, none⟩ = some (.bool a.over) ∧ w'.cell? ⟨b, o + u * 8 + 7, none⟩ = some (.slice B1 a.bks.length c1)))
              (first | exact ⟨R8.below (k := 0) ⟨q0, q1, q2, q3, q4, q5, q6, q7⟩ (below_drew1 _), R8.below ⟨t0, t1, t2, t3, t4, t5, t6, t7⟩ (below_drew1 _)⟩ | exact both_below (by assumption) (by assumption))
              (first
                | ((go_at_call 35; refine CM.out.mono ?_); rintro e w9 ⟨rfl, hb9⟩)
                | ((go_at_call 36; refine (CR.out _).mono ?_); rintro e w8 ⟨rfl, hb8⟩))
            go_wp2
            go_roundg g
            case rel => exact ⟨i + 1, by omega, by go_num, Lib.hid ⟨HS.out, ((HB.out.trans ((below_drew1 _).mono HB.out.size)).trans (hb9.mono HB.out.size)).trans (hb8.mono (Nat.le_trans HB.out.size hb9.size))⟩⟩
            case measure => omega

theorem mayOk_of {b : Bt} (h0 : 0 ≤ b.seq) (h1 : b.seq ≤ 2147483647) (h2 : 0 ≤ b.start) (h3 : b.start ≤ 1099511627776) : mayOk b = rowsOk b.rows := by
  unfold mayOk
  rw [decide_eq_true h0, decide_eq_true h1, decide_eq_true h2, decide_eq_true h3]
  simp
theorem mayOk_not {b : Bt} (h : ¬ (0 ≤ b.seq ∧ b.seq ≤ 2147483647 ∧ 0 ≤ b.start ∧ b.start ≤ 1099511627776)) : mayOk b = false := by
  rw [Bool.eq_false_iff]
  intro e
  obtain ⟨h1, h2, h3, h4, _⟩ := mayOk_parts e
  exact h ⟨h1, h2, h3, h4⟩
set_option maxHeartbeats 1000000 in
set_option maxRecDepth 100000 in
theorem batchMay (b : Bt) (A : Option Addr) (c : Nat) (w : World) (hL : Laid w) (hr : RdR w A b.rows) (hz : SizedR b.rows) :
    Calls Tryd.prog 10 #[btVal b.seq b.start A b.rows.length c] w (BB (mayOk b) w) := by
  have B0 := Lib.hid (below_new w (.cells #[.int .i64 b.seq, .int .i64 b.start, .slice A b.rows.length c] 24))
  have CR := Lib.hid (mayRows A c b.rows (w.alloc (.cells #[.int .i64 b.seq, .int .i64 b.start, .slice A b.rows.length c] 24)) (hL.alloc _) (hr.alloc _) hz)
  clear hL hr hz
  unfold btVal
  obtain ⟨s, t, rows⟩ := b
  simp only at *
  by_cases h0 : 0 ≤ s
  case neg =>
    have HE := Lib.hid (mayOk_not (b := ⟨s, t, rows⟩) (fun h => h0 h.1))
    have e1 : decide (0 ≤ s) = false := decide_eq_false h0
    clear CR
    go_enter Tryd.func10, Tryd.ntmps10
    go_wp2
    go_ret
    exact ⟨ret_bool HE.out.symm, B0.out⟩
  by_cases h1 : s ≤ 2147483647
  case neg =>
    have HE := Lib.hid (mayOk_not (b := ⟨s, t, rows⟩) (fun h => h1 h.2.1))
    have e1 : decide (s ≤ 2147483647) = false := decide_eq_false h1
    clear CR
    go_enter Tryd.func10, Tryd.ntmps10
    go_wp2
    go_ret
    exact ⟨ret_bool HE.out.symm, B0.out⟩
  by_cases h2 : 0 ≤ t
  case neg =>
    have HE := Lib.hid (mayOk_not (b := ⟨s, t, rows⟩) (fun h => h2 h.2.2.1))
    have e1 : decide (0 ≤ t) = false := decide_eq_false h2
    clear CR
    go_enter Tryd.func10, Tryd.ntmps10
    go_wp2
    go_ret
    exact ⟨ret_bool HE.out.symm, B0.out⟩
  by_cases h3 : t ≤ 1099511627776
  case neg =>
    have HE := Lib.hid (mayOk_not (b := ⟨s, t, rows⟩) (fun h => h3 h.2.2.2))
    have e1 : decide (t ≤ 1099511627776) = false := decide_eq_false h3
    clear CR
    go_enter Tryd.func10, Tryd.ntmps10
    go_wp2
    go_ret
    exact ⟨ret_bool HE.out.symm, B0.out⟩
  have HE := Lib.hid (mayOk_of (b := ⟨s, t, rows⟩) h0 h1 h2 h3)
  have e1 : decide (0 ≤ s) = true := decide_eq_true h0
  have e2 : decide (s ≤ 2147483647) = true := decide_eq_true h1
  have e3 : decide (0 ≤ t) = true := decide_eq_true h2
  have e4 : decide (t ≤ 1099511627776) = true := decide_eq_true h3
  go_enter Tryd.func10, Tryd.ntmps10
  go_wp2_with fail
  refine CR.out.mono ?_
  rintro e w1 ⟨rfl, hb⟩
  have B1 := Lib.hid (B0.out.trans (hb.mono (by simp)))
  clear hb CR
  go_wp2_with fail
  go_ret
  exact ⟨ret_bool HE.out.symm, B1.out⟩
end Go.Proofs.YtahmcelkfbigkaaDoor
