/-
  Layer 18 (tally), for layer 20: fill and come again, beside a row in another block that stays.
-/
import Derived.Test.YtedhciolnekpaaaGreatDoorGrpK
namespace Go.Proofs.YtedhciolnekpaaaGreatDoor
open Go.ChangeShapes Go.WideShapes Go.ChangeAt Go.RowKit
set_option linter.unusedVariables false

/-- A row in block g, its buckets its own, from N on; and block z is a row that stays. -/
structure Hz (N z : Nat) (zo : Array Value) (w : World) (g : Nat) (r : Rw) (B : Option Addr) (c : Nat) : Prop extends Hr N w g r B c where
  zb : w.heap[z]? = some (.cells zo 55 (0, 0))
  ne : z ≠ g
def Mz (N z : Nat) (zo : Array Value) (w : World) (g : Nat) (r' : Rw) (w' : World) : Prop := ∃ B c, Hz N z zo w' g r' B c ∧ Below N w w'
section
variable {N z : Nat} {zo : Array Value} {w w' : World} {g : Nat} {r : Rw} {B : Option Addr} {c : Nat}
theorem Hz.below (h : Hz N z zo w g r B c) (hb : Below w.heap.size w w') : Hz N z zo w' g r B c := ⟨h.toHr.below hb, by rw [hb.block z (lt_of_block h.zb)]; exact h.zb, h.ne⟩
theorem Hz.drew (h : Hz N z zo w g r B c) (n : Nat) : Hz N z zo (w.drewN n) g r B c := ⟨h.toHr.drew n, h.zb, h.ne⟩
theorem Hz.set2 (h : Hz N z zo w g r B c) (n : Nat) : Hz N z zo (w.setCell ⟨g, 2, none⟩ (.int .u64 (n : Nat))) g { r with many := n } B c := ⟨h.toHr.set2 n, by rw [heap_set_other (a := ⟨g, 2, none⟩) h.ne]; exact h.zb, h.ne⟩
theorem Hz.set3 (h : Hz N z zo w g r B c) (v : Int) : Hz N z zo (w.setCell ⟨g, 3, none⟩ (.int .i64 v)) g { r with sum := v } B c := ⟨h.toHr.set3 v, by rw [heap_set_other (a := ⟨g, 3, none⟩) h.ne]; exact h.zb, h.ne⟩
theorem Hz.set4 (h : Hz N z zo w g r B c) (v : Int) : Hz N z zo (w.setCell ⟨g, 4, none⟩ (.int .i64 v)) g { r with least := v } B c := ⟨h.toHr.set4 v, by rw [heap_set_other (a := ⟨g, 4, none⟩) h.ne]; exact h.zb, h.ne⟩
theorem Hz.set5 (h : Hz N z zo w g r B c) (v : Int) : Hz N z zo (w.setCell ⟨g, 5, none⟩ (.int .i64 v)) g { r with most := v } B c := ⟨h.toHr.set5 v, by rw [heap_set_other (a := ⟨g, 5, none⟩) h.ne]; exact h.zb, h.ne⟩
theorem Hz.set6 (h : Hz N z zo w g r B c) (b : Bool) : Hz N z zo (w.setCell ⟨g, 6, none⟩ (.bool b)) g { r with over := b } B c := ⟨h.toHr.set6 b, by rw [heap_set_other (a := ⟨g, 6, none⟩) h.ne]; exact h.zb, h.ne⟩
theorem Hz.offz (h : Hz N z zo w g r B c) : (Value.slice B r.bks.length c).ownBlock ≠ some z := fun e => by
  obtain ⟨d, f, hd⟩ := owns_block h.own z e
  rw [h.zb] at hd
  cases hd
theorem Hz.turn (h : Hz N z zo w g r B c) {B' : Option Addr} {c' : Nat} {l : List Nat} (hg : w.grownBy w' (Value.slice B r.bks.length c).ownBlock) (ho : OwnN w' N B' c' l) :
    Hz N z zo (w'.setCell ⟨g, 7, none⟩ (.slice B' l.length c')) g { r with bks := l } B' c' :=
  ⟨h.toHr.turn hg ho, by rw [heap_set_other (a := ⟨g, 7, none⟩) h.ne, hg.block z (lt_of_block h.zb) (fun e => h.offz e.symm)]; exact h.zb, h.ne⟩
theorem Hz.count {b : Nat} (h : Hz N z zo w g r (some ⟨b, 0, none⟩) c) (i n : Nat) : Hz N z zo (w.setCell ⟨b, i, none⟩ (.int .u64 (n : Nat))) g { r with bks := r.bks.set i n } (some ⟨b, 0, none⟩) c :=
  ⟨h.toHr.count i n, by rw [heap_set_other (a := ⟨b, i, none⟩) (fun e => h.offz (by rw [e]; rfl))]; exact h.zb, h.ne⟩
end
section
variable {N z : Nat} {zo : Array Value} {w w' : World} {g : Nat} {r : Rw} {B : Option Addr} {c : Nat}
set_option maxRecDepth 100000 in
set_option maxHeartbeats 1000000 in
theorem fill_walkZ (h : Hz N z zo w g r B c) (ok : OkR r) (hN : N ≤ w.heap.size) {v : Int} (hv : In64 v) :
    Calls Tryz.prog 42 #[.pointer (some ⟨g, 0, none⟩), .int .i64 v] w fun e w' => e = .returned (.tuple #[]) ∧ Mz N z zo w g (fillR r v) w' := by
  by_cases hk : r.kind = 3
  case neg =>
    have M0 : Hid (Mz N z zo w g (fillR r v) w) := Lib.hid (by
      rw [show fillR r v = r by unfold fillR; rw [if_neg hk]]
      exact ⟨B, c, h, Below.refl _ _⟩)
    have c1 := h.row.c1
    have x1 : ¬ r.kind = 3 := hk
    clear h ok hN hv hk
    generalize r.kind = kd at *
    go_enter Tryz.func42, Tryz.ntmps42
    go_wp2_with fail
    refine bodyPost_ret (results_none rfl _ _ _) rfl ?_
    exact ⟨rfl, M0.out⟩
  have CB := Lib.hid (fun w => bucket_walk w hv)
  have K63 := bkt_le hv.2
  have HE : Hid (∀ l : List Nat, l = padN r.bks (bkt v + 1) → { r with bks := l.set (bkt v) (upN (l.getD (bkt v) 0)) } = fillR r v) := Lib.hid (fun l hl => by
    subst hl
    unfold fillR incN
    rw [if_pos hk])
  have BD := Lib.hid (padN_bd (n := bkt v + 1) ok.bks)
  have LB := Lib.hid ok.len
  generalize bkt v = K at *
  have c1 := h.row.c1
  rw [hk] at c1
  have H0 := Lib.hid h
  have HN := Lib.hid hN
  have K3 := Lib.hid hk
  clear h ok hN hv hk
  go_enter Tryz.func42, Tryz.ntmps42
  go_wp2_with fail
  refine (CB.out _).mono ?_
  rintro e w2 ⟨rfl, rfl⟩
  go_wp2_with fail
  clear c1
  go_loopg [] (K + 1 - r.bks.length) (fun gk wx => ∃ (l : List Nat) (B : Option Addr) (c : Nat), l.length + gk = max r.bks.length (K + 1) ∧ Hid (r.bks.length ≤ l.length ∧ l = padN r.bks l.length) ∧ Hid (Hz N z zo wx g { r with bks := l } B c) ∧ Hid (Below N w wx))
  case atStart => exact ⟨r.bks, B, c, by omega, Lib.hid ⟨Nat.le_refl _, (padN_more (Nat.le_refl _)).symm⟩, Lib.hid H0.out, Lib.hid (Below.refl _ _)⟩
  case round =>
    obtain ⟨l, B1, c1, hl, HL, H1, BL⟩ := hrel
    have l0 := HL.out.1
    have c7 := H1.out.row.c7
    have f7 := H1.out.row.f 7
    dsimp only at c7
    cases gk with
    | zero =>
      have LP : l = padN r.bks (K + 1) := by
        have e := HL.out.2
        rcases Nat.lt_or_ge r.bks.length (K + 1) with hh | hh
        · rw [show l.length = K + 1 by omega] at e; exact e
        · rw [show l.length = r.bks.length by omega, padN_more (Nat.le_refl _)] at e
          rw [padN_more hh]; exact e
      have x1 : ¬ l.length ≤ K := by omega
      have x2 : K < l.length := by omega
      obtain ⟨b, rfl, b1, b2⟩ := H1.out.form (by dsimp only; omega)
      obtain ⟨x, hx⟩ : ∃ x, l[K]? = some x := ⟨_, List.getElem?_eq_getElem x2⟩
      have cx := H1.out.rd.rd _ rfl K x hx
      rw [Addr.add_lit, Nat.zero_add] at cx
      have xb : x ≤ 18446744073709551615 := BD.out x (by rw [← LP]; exact List.mem_of_getElem? hx)
      have CO := Lib.hid (fun w => one_walk w xb)
      have fx : wr.frozen? ⟨b, K, none⟩ = false := World.ownsRow.frozenAt H1.out.own K
      have M1 : Hid (∀ n, Mz N z zo w g (fillR r v) ((wr.drewN n).setCell ⟨b, K, none⟩ (.int .u64 (upN x : Nat)))) := Lib.hid (fun n => by
        have e1 := HE.out l LP
        rw [List.getD_eq_getElem?_getD, hx] at e1
        rw [← e1]
        exact ⟨_, _, (H1.out.drew n).count K (upN x), (BL.out.trans ((blw_drew wr n).mono (Nat.le_trans HN.out BL.out.size))).setCell (p := ⟨b, K, none⟩) b1 _⟩)
      generalize upN x = q at *
      clear LP hl HL hx l0 xb BD LB HE CB
      go_wp2_with fail
      go_region_law (go_simp; go_at_call 55; (with_reducible refine (CO.out _).mono ?_); rintro e w4 ⟨rfl, rfl⟩; try dsimp only)
      all_goals
        go_wp2_with fail
        go_end0
        exact ⟨rfl, M1.out _⟩
    | succ gk =>
      have x1 : l.length ≤ K := by omega
      have lk : l.length ≤ 1000 := by omega
      obtain ⟨B2, c2, w2, hrun, hown, hgr⟩ := append_nat 0 H1.out.own (Nat.le_trans HN.out BL.out.size) lk
      have bn : Below wr.heap.size wr (wr.alloc (.cells #[.int .u64 ((0 : Nat) : Int)] 51)) := blw_new wr _
      have H2 := H1.out.below bn
      have HT : Hid (Hz N z zo (w2.setCell ⟨g, 7, none⟩ (.slice B2 (l.length + 1) c2)) g { r with bks := l ++ [0] } B2 c2) := Lib.hid (by
        have := H2.turn hgr hown
        rw [List.length_append, List.length_singleton] at this
        exact this)
      have d7 : w2.cell? ⟨g, 7, none⟩ = some (.slice B1 l.length c1) := (H2.row.grown hgr H2.off).c7
      have e7 : w2.frozen? ⟨g, 7, none⟩ = false := (H2.row.grown hgr H2.off).f 7
      have BT : Hid (Below N w (w2.setCell ⟨g, 7, none⟩ (.slice B2 (l.length + 1) c2))) := Lib.hid
        (((BL.out.alloc (Nat.le_trans HN.out BL.out.size) _).grown hgr (Nat.le_trans (Nat.le_trans HN.out BL.out.size) bn.size) (fun k e => (World.ownsRow.lt H1.out.own k e).1)).setCell (p := ⟨g, 7, none⟩) H1.out.base _)
      have PL : Hid (r.bks.length ≤ (l ++ [0]).length ∧ l ++ [0] = padN r.bks (l ++ [0]).length) := Lib.hid ⟨by rw [List.length_append]; omega, by
        rw [List.length_append, List.length_singleton, ← padN_next l0 (Nat.lt_succ_self _), ← HL.out.2]⟩
      have HLl := Lib.hid hl
      have HRUN : Hid ((Builtin.append_ #[53, 53] 53 #[.slice B1 l.length c1, .slice (some ⟨wr.heap.size, 0, none⟩) 1 1]).run Tryz.prog (wr.alloc (.cells #[.int .u64 0] 51)) = .ok (.slice B2 (l.length + 1) c2) w2) := Lib.hid hrun
      have q7 : (wr.alloc (.cells #[.int .u64 0] 51)).cell? ⟨g, 7, none⟩ = some (.slice B1 l.length c1) := H2.row.c7
      clear hl HL l0 lk hown hgr bn H2 BD LB HE CB H1 hrun
      go_wp2_with (at_builtin; refine wpList_append_two rfl (.tmp 23) (.tmp 24) 53 53 rfl _ _ _ rfl rfl HRUN.out ?_)
      go_roundg gk
      case rel => exact ⟨l ++ [0], B2, c2, by have := HLl.out; rw [List.length_append, List.length_singleton]; omega, PL, HT, BT⟩
      case measure => omega
set_option maxRecDepth 100000 in
set_option maxHeartbeats 4000000 in
theorem come_walkZ (h : Hz N z zo w g r B c) (ok : OkR r) (hN : N ≤ w.heap.size) {v : Int} (hv : In64 v) :
    Calls Tryz.prog 41 #[.pointer (some ⟨g, 0, none⟩), .int .i64 v] w fun e w' => e = .returned (.tuple #[]) ∧ Mz N z zo w g (comeR r v) w' := by
  have CO := Lib.hid (fun w => one_walk w ok.many)
  have CA := Lib.hid (fun w => satAdd r.sum v w ok.sum.1 ok.sum.2 hv.1 hv.2)
  unfold Adds at CA
  have OH := Lib.hid (ok.head hv)
  have c1 := h.row.c1
  have c2 := h.row.c2
  have c3 := h.row.c3
  have c4 := h.row.c4
  have c5 := h.row.c5
  have c6 := h.row.c6
  have f2 := h.row.f 2
  have f3 := h.row.f 3
  have f4 := h.row.f 4
  have f5 := h.row.f 5
  have f6 := h.row.f 6
  have H0 := Lib.hid h
  have HN := Lib.hid hN
  have HV := Lib.hid hv
  have CF : Hid (∀ w1 (r1 : Rw) B c, r1 = headR r v → Hz N z zo w1 g r1 B c → Below N w w1 → Calls Tryz.prog 42 #[.pointer (some ⟨g, 0, none⟩), .int .i64 v] w1 fun e w' => e = .returned (.tuple #[]) ∧ Mz N z zo w g (comeR r v) w') := Lib.hid (fun w1 r1 B c e1 h1 b1 => by
    subst e1
    refine (fill_walkZ h1 OH.out (Nat.le_trans hN b1.size) hv).mono ?_
    rintro e w' ⟨rfl, B2, c2, h2, b2⟩
    exact ⟨rfl, B2, c2, h2, b1.trans b2⟩)
  obtain ⟨key, kind, many, sum, least, most, over, bks⟩ := r
  unfold headR at CF
  dsimp only at *
  generalize upN many = q at *
  generalize addS sum v = s at *
  generalize addO sum v = o at *
  clear h ok hN hv OH
  obtain ⟨mn, hmn⟩ : ∃ mn, (if v < least then v else least) = mn := ⟨_, rfl⟩
  have z1 : min least v = mn := by rw [← hmn]; split <;> omega
  obtain ⟨mx, hmx⟩ : ∃ mx, (if most < v then v else most) = mx := ⟨_, rfl⟩
  have z2 : max most v = mx := by rw [← hmx]; split <;> omega
  rw [hmn, hmx] at CF
  clear hmn hmx
  by_cases hk : kind = 2
  · skip
    have CF2 : Hid (Calls Tryz.prog 42 #[.pointer (some ⟨g, 0, none⟩), .int .i64 v] ((((w.setCell ⟨g, 2, none⟩ (.int .u64 (q : Nat))).setCell ⟨g, 3, none⟩ (.int .i64 v)).setCell ⟨g, 4, none⟩ (.int .i64 mn)).setCell ⟨g, 5, none⟩ (.int .i64 mx)).drew fun e w' => e = .returned (.tuple #[]) ∧ Mz N z zo w g (comeR ⟨key, kind, many, sum, least, most, over, bks⟩ v) w') :=
      Lib.hid (CF.out _ _ B c (by rw [if_pos hk, if_pos hk]) (((((H0.out.set2 q).set3 v).set4 mn).set5 mx).drew 1) (by have b := H0.out.base; exact (((((Below.refl N w).setCell (p := ⟨g, 2, none⟩) b (.int .u64 (q : Nat))).setCell (p := ⟨g, 3, none⟩) b (.int .i64 v)).setCell (p := ⟨g, 4, none⟩) b (.int .i64 mn)).setCell (p := ⟨g, 5, none⟩) b (.int .i64 mx)).drew))
    subst hk
    clear CF CA
    go_enter Tryz.func41, Tryz.ntmps41
    go_wp2_with fail
    refine (CO.out _).mono ?_
    rintro e w2 ⟨rfl, rfl⟩
    go_wp2_with fail
    go_region_law (fail)
    all_goals
      go_wp2_with fail
      refine CF2.out.mono ?_
      rintro e w2 ⟨rfl, M⟩
      have M := Lib.hid M
      go_wp2_with fail
      go_end0
      exact ⟨rfl, M.out⟩
  · have x1 : ¬ kind = 2 := hk
    have CF2 : Hid (Calls Tryz.prog 42 #[.pointer (some ⟨g, 0, none⟩), .int .i64 v] (((((w.setCell ⟨g, 2, none⟩ (.int .u64 (q : Nat))).setCell ⟨g, 3, none⟩ (.int .i64 s)).setCell ⟨g, 6, none⟩ (.bool (over || o))).setCell ⟨g, 4, none⟩ (.int .i64 mn)).setCell ⟨g, 5, none⟩ (.int .i64 mx)).drew fun e w' => e = .returned (.tuple #[]) ∧ Mz N z zo w g (comeR ⟨key, kind, many, sum, least, most, over, bks⟩ v) w') :=
      Lib.hid (CF.out _ _ B c (by rw [if_neg hk, if_neg hk]) ((((((H0.out.set2 q).set3 s).set6 (over || o)).set4 mn).set5 mx).drew 1) (by have b := H0.out.base; exact ((((((Below.refl N w).setCell (p := ⟨g, 2, none⟩) b (.int .u64 (q : Nat))).setCell (p := ⟨g, 3, none⟩) b (.int .i64 s)).setCell (p := ⟨g, 6, none⟩) b (.bool (over || o))).setCell (p := ⟨g, 4, none⟩) b (.int .i64 mn)).setCell (p := ⟨g, 5, none⟩) b (.int .i64 mx)).drew))
    clear CF
    cases over
    all_goals
      go_enter Tryz.func41, Tryz.ntmps41
      go_wp2_with fail
      refine (CO.out _).mono ?_
      rintro e w2 ⟨rfl, rfl⟩
      go_wp2_with fail
      refine (CA.out _).mono ?_
      rintro e w2 ⟨rfl, rfl⟩
      go_wp2_with fail
      go_region_law (fail)
      all_goals
        go_wp2_with fail
        refine CF2.out.mono ?_
        rintro e w2 ⟨rfl, M⟩
        have M := Lib.hid M
        go_wp2_with fail
        go_end0
        exact ⟨rfl, M.out⟩
end

end Go.Proofs.YtedhciolnekpaaaGreatDoor
