/-
  Layer 20 (window), the program's Close.
-/
import Derived.Test.YtedhciolnekpaaaGreatDoorGrpB
import Derived.Test.YtedhciolnekpaaaGreatDoorQWindowSort
import Derived.Deep.LoopGhost
namespace Go.Proofs.YtedhciolnekpaaaGreatDoor
open Go.ChangeShapes Go.WideShapes Go.ChangeAt Go.RowKit Go.Deep
set_option linter.unusedVariables false

abbrev btZ : Obj := .cells #[.int .i64 0, .int .i64 0, .slice none 0 0] 40
theorem RdW.mono {w : World} {N M : Nat} {D : Option Addr} {ys : List RbW} (h : RdW w N D ys) (hM : M ≤ N) : RdW w M D ys := by
  obtain ⟨g, e, hg, hc⟩ := h.ex
  exact ⟨⟨g, e, Nat.le_trans hM hg, hc⟩, h.bks⟩
/-- Rows stay where batches are written, and what is older. -/
theorem RdW.keeps {F : Nat → Prop} {w w' : World} {N : Nat} {D : Option Addr} {ys : List RbW} (h : RdW w N D ys) (k : Keeps F w w') (hF : ∀ x, F x → x < N ∨ ∃ s t A n c, BtB w x s t A n c) (hN : OffN w F) : RdW w' N D ys := by
  obtain ⟨g, e, hg, hc⟩ := h.ex
  refine ⟨⟨g, e, hg, fun j u hu => k.cell (hc j u hu) (fun hf => ?_)⟩, fun y hy => ownN_keeps (h.bks y hy) k hN⟩
  rcases hF g hf with hx | ⟨s, t, A, n, c, hb⟩
  · omega
  · cases ys with
    | nil => simp [rowCells] at hu
    | cons y r =>
      have h0 : (rowCells (y :: r))[0]? = some (.string y.1.key) := rfl
      have h1 := hc 0 _ h0
      rw [hb.c0] at h1
      cases h1
theorem bt_off {w : World} {g : Nat} {s t : Int} {A : Option Addr} {n c : Nat} (h : BtB w g s t A n c) : ∀ c' f, w.heap[g]? ≠ some (.cells c' 51 f) := fun c' f hb => by
  rw [h.blk] at hb
  injection hb with hb
  injection hb with _ e _
  exact absurd e (by decide)
/-- Behind the batch's making: the rows, the batch in block xb, the result in block rb. -/
structure Cq (w : World) (rb : Nat) (t : Tb) (s : Int) (l : List PtW) (xb : Nat) (ys : List RbW) (D : Option Addr) (d : Nat) (wx : World) : Prop where
  bel : Below w.heap.size w wx
  rd : RdW wx w.heap.size D ys
  eq : ys.map (·.1) = rowsW s l
  bb : BtB wx xb t.sq s D ys.length d
  br : BtB wx rb 0 0 none 0 0
  ne : xb ≠ rb
  hx : w.heap.size ≤ xb
theorem cqA {w w4 : World} {rb : Nat} {t : Tb} {s : Int} {l : List PtW} {ys : List RbW} {D : Option Addr} {d base' : Nat} (h1 : Below w.heap.size w w4) (h2 : RdW w4 base' D ys) (hb : w.heap.size ≤ base') (h3 : ys.map (·.1) = rowsW s l) (h4 : BtB w4 rb 0 0 none 0 0) :
    Cq w rb t s l w4.heap.size ys D d (w4.alloc (.cells #[.int .i64 t.sq, .int .i64 s, .slice D ys.length d] 40)) :=
  ⟨h1.alloc h1.size _, (h2.mono hb).below ((Below.refl _ w4).alloc (Nat.le_refl _) _), h3, BtB.new w4 _ _ _ _ _, h4.alloc _, fun e => by have := h4.lt; omega, h1.size⟩
theorem btq_set {w : World} {g : Nat} {a0 a1 a2 : Value} {ty : TypeId} (h : w.heap[g]? = some (.cells #[a0, a1, a2] ty (0, 0))) (x0 x1 x2 : Value) : (((w.setCell ⟨g, 0, none⟩ x0).setCell ⟨g, 1, none⟩ x1).setCell ⟨g, 2, none⟩ x2).heap[g]? = some (.cells #[x0, x1, x2] ty (0, 0)) := by
  have h0 : (w.setCell ⟨g, 0, none⟩ x0).heap[g]? = some (.cells #[x0, a1, a2] ty (0, 0)) := heap_set_same h
  have h1 : ((w.setCell ⟨g, 0, none⟩ x0).setCell ⟨g, 1, none⟩ x1).heap[g]? = some (.cells #[x0, x1, a2] ty (0, 0)) := heap_set_same h0
  exact heap_set_same h1
theorem btq_keeps (w : World) (g : Nat) (x0 x1 x2 : Value) : Keeps (fun x => x = g) w (((w.setCell ⟨g, 0, none⟩ x0).setCell ⟨g, 1, none⟩ x1).setCell ⟨g, 2, none⟩ x2) :=
  Keeps.set (Keeps.set (Keeps.set (Keeps.refl (fun x => x = g) w) ⟨g, 0, none⟩ _ (.inl rfl)) ⟨g, 1, none⟩ _ (.inl rfl)) ⟨g, 2, none⟩ _ (.inl rfl)
theorem cqB {w w4 : World} {rb xb : Nat} {t : Tb} {s : Int} {l : List PtW} {ys : List RbW} {D : Option Addr} {d base' : Nat} (h1 : Below w.heap.size w w4) (h2 : RdW w4 base' D ys) (hb : w.heap.size ≤ base') (h3 : ys.map (·.1) = rowsW s l) (h4 : BtB w4 rb 0 0 none 0 0) (h5 : BtB w4 xb 0 0 none 0 0) (hne : xb ≠ rb) (hx : w.heap.size ≤ xb) :
    Cq w rb t s l xb ys D d (((w4.setCell ⟨xb, 0, none⟩ (.int .i64 t.sq)).setCell ⟨xb, 1, none⟩ (.int .i64 s)).setCell ⟨xb, 2, none⟩ (.slice D ys.length d)) := by
  have k := btq_keeps w4 xb (.int .i64 t.sq) (.int .i64 s) (.slice D ys.length d)
  exact ⟨bset (bset (bset h1 hx) hx) hx, (h2.mono hb).keeps k (fun x e => .inr (by subst e; exact ⟨_, _, _, _, _, h5⟩)) (fun x e => by subst e; exact bt_off h5), h3, ⟨btq_set h5.blk _ _ _⟩, ⟨by rw [k.block rb h4.lt (fun e => hne e.symm)]; exact h4.blk⟩, hne, hx⟩
theorem wpList_del {P : Program} {w w' : World} {ops : Array Oper} {rest : List Oper} {o : Oper} {a : Act} {Q : Exit → Act → World → Prop} (hg : o.guard = none) (m x : Operand) (t k : TypeId) (hop : o.op = Op.call { callee := Callee.builtin Builtin.delete, args := #[m, x], argTypes := #[t, k] })
    (vm vx : Value) (hm : a.eval m = vm) (hx : a.eval x = vx) (hrun : (Builtin.delete_ #[t, k] o.type #[vm, vx]).run P w = .ok (.tuple #[]) w') (h : wpList P ops Q rest (a.put o.dst (.tuple #[])) w') : wpList P ops Q (o :: rest) a w := by
  refine wpList_plain hg fun K' hK' => ?_
  unfold Oper.wp
  simp [execOp, hop, resolve, invoke, builtin, hm, hx, hrun, Result.andThen]
  exact hK' _ _ h
/-- What closing comes to. -/
def CloseP (N : Nat) (w : World) (a bm : Nat) (t : Tb) (l : List PtW) (mark : Int) (e : Ending) (w' : World) : Prop :=
  ((∀ s K, startsW l = s :: K → ¬ s + t.wd ≤ mark) ∧ e = .returned (.tuple #[btVal 0 0 none 0 0, .bool false]) ∧ Below w.heap.size w w') ∨
  (∃ (s : Int) (K : List Int) (ys : List RbW) (D : Option Addr) (d : Nat) (blk : Int → Nat), startsW l = s :: K ∧ s + t.wd ≤ mark ∧ e = .returned (.tuple #[btVal t.sq s D ys.length d, .bool true]) ∧ ys.map (·.1) = rowsW s l ∧ RdW w' w.heap.size D ys ∧ Tq N w' a bm { t with sq := t.sq + 1 } (leftW s l) blk ∧ Kq N w w')
theorem BtB.belowZ {w w' : World} {g : Nat} {s t : Int} {A : Option Addr} {n c : Nat} (h : BtB w g s t A n c) (hb : Below w.heap.size w w') : BtB w' g s t A n c := h.below hb (Nat.le_refl _)
section
variable {N : Nat} {w : World} {a bm : Nat} {t : Tb} {l : List PtW} {blk : Int → Nat} {mark : Int}
set_option maxHeartbeats 1000000 in
set_option maxRecDepth 100000 in
theorem close_none20 (h : Tq N w a bm t l blk) (hb : ∀ s ∈ startsW l, 0 ≤ s ∧ s ≤ 1099511627776) (hw1 : 1 ≤ t.wd) (hw2 : t.wd ≤ 1099511627776) (hd : ∀ s K, startsW l = s :: K → ¬ s + t.wd ≤ mark) :
    Calls Tryz.prog 11 #[.pointer (some ⟨a, 0, none⟩), .int .i64 mark] w (CloseP N w a bm t l mark) := by
  have T1 := h.alloc btZ
  have CF := Lib.hid (first_walk20 T1)
  have B0 := Lib.hid (BtB.new w 0 0 none 0 0)
  have BW : Hid (Below w.heap.size w (w.alloc btZ)) := Lib.hid ((Below.refl _ w).alloc (Nat.le_refl _) _)
  have HD := Lib.hid hd
  have HT1 := Lib.hid T1
  cases hs : startsW l with
  | nil =>
    rw [hs] at CF
    clear h hb hw1 hw2 hd T1 hs
    simp only [List.head?_nil, Option.isSome_none] at CF
    go_enter Tryz.func11, Tryz.ntmps11
    go_wp2_with fail
    refine CF.out.mono ?_
    rintro e w2 ⟨rfl, b2⟩
    have B2 := Lib.hid (B0.out.belowZ b2)
    have BX := Lib.hid (BW.out.trans (b2.mono BW.out.size))
    have r0 := B2.out.c0
    have r1 := B2.out.c1
    have r2 := B2.out.c2
    have f0 := B2.out.f 0
    have f1 := B2.out.f 1
    have f2 := B2.out.f 2
    clear b2 CF
    go_wp2_with fail
    refine bodyPost_ret (v := .tuple #[btVal 0 0 none 0 0, .bool false]) (by simp [results, Tryz.results11, go_sem, btVal, r0, r1, r2]) rfl ?_
    exact .inl ⟨fun s' K' e' => by have := HD.out s' K' e'; omega, rfl, bset (bset (bset BX.out (Nat.le_refl _)) (Nat.le_refl _)) (Nat.le_refl _)⟩
  | cons s K =>
    have hns := hd s K hs
    obtain ⟨hb0, hb1⟩ := hb s (by rw [hs]; simp)
    have CI := Lib.hid (fun (wx : World) (hx : Below (w.alloc btZ).heap.size (w.alloc btZ) wx) => isdue_walk wx a t.wd s mark (T1.below hx).c0 ⟨by omega, by omega⟩)
    rw [decide_eq_false hns] at CI
    rw [hs] at CF
    clear h hb hw1 hw2 hd T1 hs hns hb0 hb1
    simp only [List.head?_cons, Option.isSome_some] at CF
    unfold fstI at CF
    simp only [Option.getD_some] at CF
    go_enter Tryz.func11, Tryz.ntmps11
    go_wp2_with fail
    refine CF.out.mono ?_
    rintro e w2 ⟨rfl, b2⟩
    have CI1 := Lib.hid (CI.out w2 b2)
    have B2 := Lib.hid (B0.out.belowZ b2)
    have BX := Lib.hid (BW.out.trans (b2.mono BW.out.size))
    have r0 := B2.out.c0
    have r1 := B2.out.c1
    have r2 := B2.out.c2
    have f0 := B2.out.f 0
    have f1 := B2.out.f 1
    have f2 := B2.out.f 2
    clear b2 CF CI
    go_wp2_with fail
    refine CI1.out.mono ?_
    rintro e w3 ⟨rfl, rfl⟩
    go_wp2_with fail
    refine bodyPost_ret (v := .tuple #[btVal 0 0 none 0 0, .bool false]) (by simp [results, Tryz.results11, go_sem, btVal, r0, r1, r2]) rfl ?_
    exact .inl ⟨fun s' K' e' => by have := HD.out s' K' e'; omega, rfl, bset (bset (bset BX.out (Nat.le_refl _)) (Nat.le_refl _)) (Nat.le_refl _)⟩
set_option maxHeartbeats 4000000 in
set_option maxRecDepth 100000 in
theorem close_due20 (h : Tq N w a bm t l blk) (hl : l.length ≤ 100) (hb : ∀ s ∈ startsW l, 0 ≤ s ∧ s ≤ 1099511627776) (hw1 : 1 ≤ t.wd) (hw2 : t.wd ≤ 1099511627776) (hq0 : 0 ≤ t.sq) (hq1 : t.sq ≤ 2147483647) {s : Int} {K : List Int} (hs : startsW l = s :: K) (hd : s + t.wd ≤ mark) :
    Calls Tryz.prog 11 #[.pointer (some ⟨a, 0, none⟩), .int .i64 mark] w (CloseP N w a bm t l mark) := by
  have T1 := h.alloc btZ
  have CF := Lib.hid (first_walk20 T1)
  have B0 := Lib.hid (BtB.new w 0 0 none 0 0)
  have BW : Hid (Below w.heap.size w (w.alloc btZ)) := Lib.hid ((Below.refl _ w).alloc (Nat.le_refl _) _)
  have HD := Lib.hid hd
  have HT := Lib.hid h
  have hin : s ∈ startsW l := by rw [hs]; simp
  have HIN := Lib.hid hin
  obtain ⟨hb0, hb1⟩ := hb s hin
  have CI := Lib.hid (fun (wx : World) (hx : Below (w.alloc btZ).heap.size (w.alloc btZ) wx) => isdue_walk wx a t.wd s mark (T1.below hx).c0 ⟨by omega, by omega⟩)
  rw [decide_eq_true hd] at CI
  have h0 : 0 < (rowsW s l).length := by
    cases e : rowsW s l with
    | nil => exact absurd hin (rows_none.1 e)
    | cons r R => simp
  have h5 : (rowsW s l).length ≤ 500 := by have := rows_le s l; omega
  have CR := Lib.hid (fun wx (hx : Below w.heap.size w wx) => sorted_walk ((h.below hx).out.inn s hin) (rows_up s l) h0 h5)
  have HS := Lib.hid hs
  have z9 : IntKind.i64.wrap (t.sq + 1) = t.sq + 1 := by rw [IntKind.wrap_i64]; omega
  rw [hs] at CF
  obtain ⟨rb, hrb⟩ : ∃ rb, w.heap.size = rb := ⟨_, rfl⟩
  have HRB := Lib.hid hrb
  rw [hrb] at B0
  clear h hb hw1 hw2 hd T1 hs hb0 hb1 h0 h5 hin hl hq0 hq1
  simp only [List.head?_cons, Option.isSome_some] at CF
  unfold fstI at CF
  simp only [Option.getD_some] at CF
  go_enter Tryz.func11, Tryz.ntmps11
  go_wp2_with fail
  refine CF.out.mono ?_
  rintro e w2 ⟨rfl, b2⟩
  have CI1 := Lib.hid (CI.out w2 b2)
  have B2 := Lib.hid (B0.out.belowZ b2)
  have BY := Lib.hid (BW.out.trans (b2.mono BW.out.size))
  clear b2 CF CI B0 BW
  go_wp2_with fail
  refine CI1.out.mono ?_
  rintro e w3 ⟨rfl, rfl⟩
  clear CI1
  go_wp2_with fail
  have HW3 : Hid (w.heap.size ≤ w3.heap.size) := Lib.hid BY.out.size
  have HRL : Hid (rb < w3.heap.size) := Lib.hid B2.out.lt
  go_cut [8] from 24 to 36 (fun v8 wx => ∃ (xb : Nat) (ys : List RbW) (D : Option Addr) (d : Nat), v8 = .pointer (some ⟨xb, 0, none⟩) ∧ Hid (Cq w rb t s l xb ys D d wx))
  case first =>
    have BY0 := Lib.hid (BY.out.trans (((Below.refl w3.heap.size w3).alloc (Nat.le_refl _) btZ).mono BY.out.size))
    have T3 := HT.out.below BY.out
    have T30 := HT.out.below BY0.out
    have c3 := T3.c3
    have c4 := T3.c4
    have c3b : (w3.alloc (.cells #[.int .i64 0, .int .i64 0, .slice none 0 0] 40)).cell? ⟨a, 3, none⟩ = some (.int .i64 t.sq) := T30.c3
    have c4b : (w3.alloc (.cells #[.int .i64 0, .int .i64 0, .slice none 0 0] 40)).cell? ⟨a, 4, none⟩ = some (.map (some bm)) := T30.c4
    have lk3 : (Instr.lookup 57 (.map (some bm)) (.int .i64 s) false).run Tryz.prog w3.drew = .ok (.map (some (blk s))) w3.drew := (T3.drewN 1).out.look_plain HIN.out
    have lk4 : (Instr.lookup 57 (.map (some bm)) (.int .i64 s) false).run Tryz.prog (w3.alloc (.cells #[.int .i64 0, .int .i64 0, .slice none 0 0] 40)).drew = .ok (.map (some (blk s))) (w3.alloc (.cells #[.int .i64 0, .int .i64 0, .slice none 0 0] 40)).drew := (T30.drewN 1).out.look_plain HIN.out
    have CR3 := Lib.hid (CR.out w3.drew (BY.out.trans ((below_drew w3).mono BY.out.size)))
    have CR4 := Lib.hid (CR.out (w3.alloc btZ).drew (BY0.out.trans ((below_drew (w3.alloc btZ)).mono BY0.out.size)))
    clear T3 T30
    go_region_law (first
      | (go_simp; go_at_call 25; first
          | ((with_reducible refine CR4.out.mono ?_); rintro e w4 ⟨D, d, ys, rfl, hx, ox, b4⟩; have c34 := (HT.out.below (BY0.out.trans (((below_drew (w3.alloc btZ)).trans (b4.mono (below_drew (w3.alloc btZ)).size)).mono BY0.out.size))).c3; have BN := (BtB.new w3 0 0 none 0 0).belowZ ((below_drew (w3.alloc btZ)).trans (b4.mono (below_drew (w3.alloc btZ)).size)); have y0 := BN.c0; have y1 := BN.c1; have y2 := BN.c2; have v0 := BN.f 0; have v1 := BN.f 1; have v2 := BN.f 2; have HXX := Lib.hid hx; have OX := Lib.hid ox; have BZ := Lib.hid (BY0.out.trans (((below_drew (w3.alloc btZ)).trans (b4.mono (below_drew (w3.alloc btZ)).size)).mono BY0.out.size)); have BR := Lib.hid ((B2.out.alloc btZ).belowZ ((below_drew (w3.alloc btZ)).trans (b4.mono (below_drew (w3.alloc btZ)).size))); have BN := Lib.hid BN; clear hx ox b4)
          | ((with_reducible refine CR3.out.mono ?_); rintro e w4 ⟨D, d, ys, rfl, hx, ox, b4⟩; have T4 := (HT.out.below (BY.out.trans (((below_drew w3).trans (b4.mono (below_drew w3).size)).mono BY.out.size))); have c34 := T4.c3; have c35 : (w4.alloc (.cells #[.int .i64 0, .int .i64 0, .slice none 0 0] 40)).cell? ⟨a, 3, none⟩ = some (.int .i64 t.sq) := (T4.below ((Below.refl _ w4).alloc (Nat.le_refl _) _)).c3; clear T4; have HXX := Lib.hid hx; have OX := Lib.hid ox; have BZ := Lib.hid (BY.out.trans (((below_drew w3).trans (b4.mono (below_drew w3).size)).mono BY.out.size)); have BR := Lib.hid (B2.out.belowZ ((below_drew w3).trans (b4.mono (below_drew w3).size))); clear hx ox b4))
      | fail)
    all_goals go_wp2_with fail
    all_goals
      go_meet
      first
        | exact ⟨_, ys, D, d, rfl, Lib.hid (cqA BZ.out OX.out HW3.out HXX.out BR.out)⟩
        | exact ⟨_, ys, D, d, rfl, Lib.hid (cqB BZ.out OX.out (Nat.le_trans HW3.out (by simp)) HXX.out BR.out BN.out (fun e => by have := HRL.out; omega) HW3.out)⟩
  case rest =>
    obtain ⟨xb, ys, D, d, rfl, HC⟩ := hcut
    have TC := HT.out.below HC.out.bel
    have c3 := TC.c3
    have f3 := TC.fr 3
    have T1 := TC.seq (t.sq + 1)
    have K1 := TC.kseq (t.sq + 1)
    have ka : Keeps (fun g => g = a) wc (wc.setCell ⟨a, 3, none⟩ (.int .i64 (t.sq + 1))) := (Keeps.refl _ wc).set ⟨a, 3, none⟩ _ (.inl rfl)
    have hal : a < w.heap.size := HT.out.lt
    have hbl : bm < w.heap.size := HT.out.out.lt
    have hra : rb ≠ a := by have := HRB.out; omega
    have hxa : xb ≠ a := by have := HC.out.hx; omega
    have bb1 : BtB (wc.setCell ⟨a, 3, none⟩ (.int .i64 (t.sq + 1))) xb t.sq s D ys.length d := ⟨by rw [ka.block xb HC.out.bb.lt hxa]; exact HC.out.bb.blk⟩
    have br1 : BtB (wc.setCell ⟨a, 3, none⟩ (.int .i64 (t.sq + 1))) rb 0 0 none 0 0 := ⟨by rw [ka.block rb HC.out.br.lt hra]; exact HC.out.br.blk⟩
    have rd1 : RdW (wc.setCell ⟨a, 3, none⟩ (.int .i64 (t.sq + 1))) w.heap.size D ys := HC.out.rd.keeps ka (fun x e => .inl (by subst e; exact hal)) (fun x e c f hb => by
      subst e
      rw [TC.cel] at hb
      injection hb with hb
      injection hb with _ e _
      exact absurd e (by decide))
    have d4 := T1.c4
    obtain ⟨v2, r2, t2, o2⟩ := T1.out.drop HS.out 0
    have kb := mapw_turned t2
    have hxb : xb ≠ bm := by have := HC.out.hx; omega
    have hrb' : rb ≠ bm := by have := HRB.out; omega
    have bb2 : BtB v2 xb t.sq s D ys.length d := ⟨by rw [kb.block xb bb1.lt hxb]; exact bb1.blk⟩
    have br2 : BtB v2 rb 0 0 none 0 0 := ⟨by rw [kb.block rb br1.lt hrb']; exact br1.blk⟩
    have rd2 : RdW v2 w.heap.size D ys := rd1.keeps kb (fun x e => .inl (by subst e; exact hbl)) (OffN.map T1.out.is)
    have hl2 := left_starts HS.out
    have T2 : Tq N v2 a bm { t with sq := t.sq + 1 } (leftW s l) blk := ⟨by rw [kb.block a T1.lt (T1.ne T1.out.is)]; exact T1.cel, o2, T1.na, T1.nb, fun x hx => T1.ns x (by rw [hl2] at hx; rw [HS.out]; simp [hx])⟩
    have K2 : Kq N w v2 := ((Kq.below HC.out.bel).trans K1).trans (Kq.map T1.nb T1.out.is kb)
    have kr := btq_keeps v2 rb (.int .i64 t.sq) (.int .i64 s) (.slice D ys.length d)
    have rdF := rd2.keeps kr (fun x e => .inr (by subst e; exact ⟨_, _, _, _, _, br2⟩)) (fun x e => by subst e; exact bt_off br2)
    have TF := T2.off kr (fun g e => by
      subst e
      refine ⟨fun ⟨es, c, hb⟩ => ?_, fun c f hb => ?_, bt_off br2⟩
      · rw [br2.blk] at hb; cases hb
      · rw [br2.blk] at hb
        injection hb with hb
        injection hb with _ e _
        exact absurd e (by decide))
    have KF : Kq N w (((v2.setCell ⟨rb, 0, none⟩ (.int .i64 t.sq)).setCell ⟨rb, 1, none⟩ (.int .i64 s)).setCell ⟨rb, 2, none⟩ (.slice D ys.length d)) := Keeps.trans K2 kr (fun g e => .inr (by subst e; have := HRB.out; omega))
    have q0 := bb2.c0
    have q1 := bb2.c1
    have q2 := bb2.c2
    have y0 := br2.c0
    have y1 := br2.c1
    have y2 := br2.c2
    have g0 := br2.f 0
    have g1 := br2.f 1
    have g2 := br2.f 2
    have BF := btq_set br2.blk (.int .i64 t.sq) (.int .i64 s) (.slice D ys.length d)
    have HF := Lib.hid (And.intro rdF (And.intro TF (And.intro KF BF)))
    have HEQ := Lib.hid HC.out.eq
    have R2 := Lib.hid r2
    clear TC T1 K1 ka hal hbl hra hxa bb1 br1 rd1 r2 t2 o2 kb hxb hrb' bb2 br2 rd2 hl2 T2 K2 kr rdF TF KF BF HC
    go_wp2_with (first
      | (at_delete; refine wpList_del rfl _ _ _ _ rfl _ _ rfl rfl R2.out ?_)
      | fail)
    obtain ⟨rdF, TF, KF, BF⟩ := HF.out
    have r0 := cell_of_block (o := 0) BF
    have r1 := cell_of_block (o := 1) BF
    have r2 := cell_of_block (o := 2) BF
    generalize ((v2.setCell ⟨rb, 0, none⟩ (.int .i64 t.sq)).setCell ⟨rb, 1, none⟩ (.int .i64 s)).setCell ⟨rb, 2, none⟩ (.slice D ys.length d) = vF at rdF TF KF r0 r1 r2 ⊢
    have r0 : vF.cell? ⟨rb, 0, none⟩ = some (.int .i64 t.sq) := r0
    have r1 : vF.cell? ⟨rb, 1, none⟩ = some (.int .i64 s) := r1
    have r2 : vF.cell? ⟨rb, 2, none⟩ = some (.slice D ys.length d) := r2
    refine bodyPost_ret (v := .tuple #[btVal t.sq s D ys.length d, .bool true]) (by simp [results, Tryz.results11, go_sem, btVal, r0, r1, r2]) rfl ?_
    exact .inr ⟨s, K, ys, D, d, blk, HS.out, HD.out, rfl, HEQ.out, rdF, TF, KF⟩
/-- Both ways. -/
theorem close_walk20 (h : Tq N w a bm t l blk) (hl : l.length ≤ 100) (hb : ∀ s ∈ startsW l, 0 ≤ s ∧ s ≤ 1099511627776) (hw1 : 1 ≤ t.wd) (hw2 : t.wd ≤ 1099511627776) (hq0 : 0 ≤ t.sq) (hq1 : t.sq ≤ 2147483647) :
    Calls Tryz.prog 11 #[.pointer (some ⟨a, 0, none⟩), .int .i64 mark] w (CloseP N w a bm t l mark) := by
  cases hs : startsW l with
  | nil => exact close_none20 h hb hw1 hw2 (fun s K e => by rw [hs] at e; cases e)
  | cons s K =>
    by_cases hd : s + t.wd ≤ mark
    · exact close_due20 h hl hb hw1 hw2 hq0 hq1 hs hd
    · exact close_none20 h hb hw1 hw2 (fun s' K' e => by rw [hs] at e; cases e; exact hd)
end
end Go.Proofs.YtedhciolnekpaaaGreatDoor
