/-
  Layer 20 (window): the document's Close.
-/
import Derived.Test.YtedhciolnekpaaaGreatDoorQWindowDue
import Derived.RegionTactic
import Derived.Deep.RegionLaw
import Derived.Deep.LoopGhost
import Derived.Deep.Cut
import Derived.Deep.CutRange
namespace Go.Proofs.YtedhciolnekpaaaGreatDoor
open Go.ChangeShapes Go.WideShapes Go.ChangeAt Go.RowKit Go.Deep
set_option linter.unusedVariables false

/-- What a call that closes comes to. -/
def CloseTold (base : Nat) (w : World) (b : Nat) (t : Tb) (l : List PtW) (mark : Int) (e : Ending) (w' : World) : Prop :=
  (dueW t.wd mark (startsW l) = 0 ∧ e = .returned (.tuple #[btVal 0 0 none 0 0, .bool false]) ∧ Below w.heap.size w w') ∨
  (dueW t.wd mark (startsW l) ≠ 0 ∧ ∃ s K x D d A c, startsW l = s :: K ∧ x.map (·.1) = rowsW s l ∧ e = .returned (.tuple #[btVal t.sq s D x.length d, .bool true]) ∧ OwnL w' w.heap.size D d x ∧ Tr base w' b { t with sq := t.sq + 1 } A c (leftW s l) ∧ Keeps (fun g => g = b) w w')
abbrev bt0 : Obj := .cells #[.int .i64 0, .int .i64 0, .slice none 0 0] 40
theorem BtB.below' {w w' : World} {g : Nat} {s t : Int} {A : Option Addr} {n c : Nat} (h : BtB w g s t A n c) (hb : Below w.heap.size w w') : BtB w' g s t A n c := h.below hb (Nat.le_refl _)
set_option maxHeartbeats 1000000 in
set_option maxRecDepth 100000 in
theorem ref_close_none (base : Nat) (w : World) (b : Nat) (t : Tb) (A : Option Addr) (c : Nat) (l : List PtW) (h : Tr base w b t A c l) (hl : l.length ≤ 100) (hb : ∀ p ∈ l, 0 ≤ p.start ∧ p.start ≤ 1099511627776) (hw1 : 1 ≤ t.wd) (hw2 : t.wd ≤ 1099511627776) (mark : Int) (hd : dueW t.wd mark (startsW l) = 0) :
    Calls Tryz.prog 12 #[.pointer (some ⟨b, 0, none⟩), .int .i64 mark] w (CloseTold base w b t l mark) := by
  have CD := Lib.hid (ref_due base (w.alloc bt0) b t A c l (h.still ((Below.refl _ w).alloc (Nat.le_refl _) _)) hl hb hw1 hw2 mark)
  rw [hd] at CD
  have HD := Lib.hid hd
  have B0 := Lib.hid (BtB.new w 0 0 none 0 0)
  have BW : Hid (Below w.heap.size w (w.alloc bt0)) := Lib.hid ((Below.refl _ w).alloc (Nat.le_refl _) _)
  clear h hl hb hw1 hw2 hd
  go_enter Tryz.func12, Tryz.ntmps12
  go_wp2_with fail
  refine CD.out.mono ?_
  rintro e w2 ⟨rfl, b2⟩
  have B2 := Lib.hid (B0.out.below' b2)
  have BX := Lib.hid (BW.out.trans (b2.mono BW.out.size))
  have r0 := B2.out.c0
  have r1 := B2.out.c1
  have r2 := B2.out.c2
  have f0 := B2.out.f 0
  have f1 := B2.out.f 1
  have f2 := B2.out.f 2
  clear b2 CD
  go_wp2_with fail
  refine bodyPost_ret (v := .tuple #[btVal 0 0 none 0 0, .bool false]) (by simp [results, Tryz.results12, go_sem, btVal, r0, r1, r2]) rfl ?_
  exact .inl ⟨HD.out, rfl, bset (bset (bset BX.out (Nat.le_refl _)) (Nat.le_refl _)) (Nat.le_refl _)⟩
theorem left_next {s : Int} {l : List PtW} {i : Nat} {p : PtW} (h : l[i]? = some p) : leftW s (l.take (i + 1)) = if p.start = s then leftW s (l.take i) else leftW s (l.take i) ++ [p] := by
  unfold leftW
  rw [List.take_add_one, h, List.filter_append]
  by_cases c : p.start = s
  · rw [if_pos c]; simp [c]
  · rw [if_neg c]; simp [c]
theorem left_le (s : Int) (l : List PtW) : (leftW s l).length ≤ l.length := List.length_filter_le _ _
/-- Behind the batch's making: the rows, the batch in block xb, the result in block rb. -/
structure Cm (w : World) (rb : Nat) (t : Tb) (s : Int) (l : List PtW) (xb : Nat) (x : List (Rw × Option Addr × Nat)) (D : Option Addr) (d : Nat) (wx : World) : Prop where
  bel : Below w.heap.size w wx
  own : OwnL wx w.heap.size D d x
  eq : x.map (·.1) = rowsW s l
  bb : BtB wx xb t.sq s D x.length d
  br : BtB wx rb 0 0 none 0 0
  ne : xb ≠ rb
  hx : w.heap.size ≤ xb
theorem cmA {w w4 : World} {rb : Nat} {t : Tb} {s : Int} {l : List PtW} {x : List (Rw × Option Addr × Nat)} {D : Option Addr} {d base' : Nat} (h1 : Below w.heap.size w w4) (h2 : OwnL w4 base' D d x) (hb : w.heap.size ≤ base') (h3 : x.map (·.1) = rowsW s l) (h4 : BtB w4 rb 0 0 none 0 0) :
    Cm w rb t s l w4.heap.size x D d (w4.alloc (.cells #[.int .i64 t.sq, .int .i64 s, .slice D x.length d] 40)) :=
  ⟨h1.alloc h1.size _, ⟨World.ownsRow.alloc (owns_mono h2.own hb) _, fun y hy => World.ownsRow.alloc (owns_mono (h2.bks y hy) hb) _⟩, h3, BtB.new w4 _ _ _ _ _, h4.alloc _, fun e => by have := h4.lt; omega, h1.size⟩
theorem bt_set {w : World} {g : Nat} {a0 a1 a2 : Value} {ty : TypeId} (h : w.heap[g]? = some (.cells #[a0, a1, a2] ty (0, 0))) (x0 x1 x2 : Value) : (((w.setCell ⟨g, 0, none⟩ x0).setCell ⟨g, 1, none⟩ x1).setCell ⟨g, 2, none⟩ x2).heap[g]? = some (.cells #[x0, x1, x2] ty (0, 0)) := by
  have h0 : (w.setCell ⟨g, 0, none⟩ x0).heap[g]? = some (.cells #[x0, a1, a2] ty (0, 0)) := heap_set_same h
  have h1 : ((w.setCell ⟨g, 0, none⟩ x0).setCell ⟨g, 1, none⟩ x1).heap[g]? = some (.cells #[x0, x1, a2] ty (0, 0)) := heap_set_same h0
  exact heap_set_same h1
theorem bt_grown (w : World) (g : Nat) (x0 x1 x2 : Value) : w.grownBy (((w.setCell ⟨g, 0, none⟩ x0).setCell ⟨g, 1, none⟩ x1).setCell ⟨g, 2, none⟩ x2) (some g) := gset (gset (gset (grown_refl w _)))
theorem cmB {w w4 : World} {rb xb : Nat} {t : Tb} {s : Int} {l : List PtW} {x : List (Rw × Option Addr × Nat)} {D : Option Addr} {d base' : Nat} (h1 : Below w.heap.size w w4) (h2 : OwnL w4 base' D d x) (hb : w.heap.size ≤ base') (h3 : x.map (·.1) = rowsW s l) (h4 : BtB w4 rb 0 0 none 0 0) (h5 : BtB w4 xb 0 0 none 0 0) (hne : xb ≠ rb) (hx : w.heap.size ≤ xb) :
    Cm w rb t s l xb x D d (((w4.setCell ⟨xb, 0, none⟩ (.int .i64 t.sq)).setCell ⟨xb, 1, none⟩ (.int .i64 s)).setCell ⟨xb, 2, none⟩ (.slice D x.length d)) := by
  have g := bt_grown w4 xb (.int .i64 t.sq) (.int .i64 s) (.slice D x.length d)
  have kk : ∀ q, some xb = some q → q < w.heap.size ∨ ∃ c f ty, w4.heap[q]? = some (.cells c ty f) ∧ ty ≠ 55 := fun q e => by cases e; exact .inr ⟨_, _, _, h5.blk, by decide⟩
  have kn : ∀ q, some xb = some q → q < w.heap.size ∨ ∃ c f ty, w4.heap[q]? = some (.cells c ty f) ∧ ty ≠ 51 := fun q e => by cases e; exact .inr ⟨_, _, _, h5.blk, by decide⟩
  refine ⟨bset (bset (bset h1 hx) hx) hx, ⟨owns_kept (owns_mono h2.own hb) g kk, fun y hy => owns_kept (owns_mono (h2.bks y hy) hb) g kn⟩, h3, ⟨bt_set h5.blk _ _ _⟩, h4.grown g (fun e => hne (Option.some.inj e)), hne, hx⟩
set_option maxHeartbeats 4000000 in
set_option maxRecDepth 100000 in
theorem ref_close (base : Nat) (w : World) (b : Nat) (t : Tb) (A : Option Addr) (c : Nat) (l : List PtW) (h : Tr base w b t A c l) (hX : base ≤ w.heap.size) (hl : l.length ≤ 100) (hp : ∀ p ∈ l, PtOk p) (hb : ∀ p ∈ l, 0 ≤ p.start ∧ p.start ≤ 1099511627776) (hw1 : 1 ≤ t.wd) (hw2 : t.wd ≤ 1099511627776) (hq0 : 0 ≤ t.sq) (hq1 : t.sq ≤ 2147483647) (mark : Int) (hd : dueW t.wd mark (startsW l) ≠ 0) :
    Calls Tryz.prog 12 #[.pointer (some ⟨b, 0, none⟩), .int .i64 mark] w (CloseTold base w b t l mark) := by
  have CD := Lib.hid (ref_due base (w.alloc bt0) b t A c l (h.still ((Below.refl _ w).alloc (Nat.le_refl _) _)) hl hb hw1 hw2 mark)
  have CS := Lib.hid (fun wx (hb : Below w.heap.size w wx) => ref_starts base wx b t A c l (h.still hb) hl)
  have CR := Lib.hid (fun wx (hb : Below w.heap.size w wx) s => ref_rows base wx b t A c l (h.still hb) hl hp s)
  unfold StartsTold at CS
  unfold RowsTold at CR
  have HT := Lib.hid h
  have HX := Lib.hid hX
  have HL := Lib.hid hl
  have HD := Lib.hid hd
  obtain ⟨s, K, hs⟩ : ∃ s K, startsW l = s :: K := by
    cases e : startsW l with
    | nil => rw [e] at hd; exact absurd rfl hd
    | cons s K => exact ⟨s, K, rfl⟩
  have HS := Lib.hid hs
  obtain ⟨n, hn⟩ : ∃ n, dueW t.wd mark (startsW l) = n := ⟨_, rfl⟩
  rw [hn] at CD hd
  rw [hs] at CS
  have hn0 : ¬ n = 0 := hd
  have hn1 : ¬ (n : Int) = 0 := by omega
  have z9 : IntKind.i64.wrap (t.sq + 1) = t.sq + 1 := by rw [IntKind.wrap_i64]; omega
  have B0 := Lib.hid (BtB.new w 0 0 none 0 0)
  have BW : Hid (Below w.heap.size w (w.alloc bt0)) := Lib.hid ((Below.refl _ w).alloc (Nat.le_refl _) _)
  obtain ⟨rb, hrb⟩ : ∃ rb, w.heap.size = rb := ⟨_, rfl⟩
  have HRB := Lib.hid hrb
  rw [hrb] at B0
  clear h hX hl hp hb hw1 hw2 hd hn hs hq0 hq1
  go_enter Tryz.func12, Tryz.ntmps12
  go_wp2_with fail
  refine CD.out.mono ?_
  rintro e w2 ⟨rfl, b2⟩
  have B2 := Lib.hid (B0.out.below' b2)
  have BX := Lib.hid (BW.out.trans (b2.mono BW.out.size))
  clear b2 CD B0 BW
  go_wp2_with fail
  refine (CS.out w2 BX.out).mono ?_
  rintro e w3 ⟨D3, d3, rfl, o3, b3⟩
  have B3 := Lib.hid (B2.out.below' b3)
  have BY := Lib.hid (BX.out.trans (b3.mono BX.out.size))
  obtain ⟨gd, rfl, hgd, hcd⟩ := OwK.at o3 (by rw [List.length_cons]; omega)
  have z0 : w3.cell? ⟨gd, 0, none⟩ = some (.int .i64 s) := hcd 0 _ rfl
  have c3 := (HT.out.still BY.out).c3
  have hkl : (s :: K).length = K.length + 1 := rfl
  clear b3 o3 hcd hgd B2 BX CS
  go_wp2_with fail
  have HW3 : Hid (w.heap.size ≤ w3.heap.size) := Lib.hid BY.out.size
  have HRL : Hid (rb < w3.heap.size) := Lib.hid B3.out.lt
  go_cut [7] from 19 to 27 (fun v7 wx => ∃ (xb : Nat) (x : List (Rw × Option Addr × Nat)) (D : Option Addr) (d : Nat), v7 = .pointer (some ⟨xb, 0, none⟩) ∧ Hid (Cm w rb t s l xb x D d wx))
  case first =>
    have BY0 := Lib.hid (BY.out.trans (((Below.refl w3.heap.size w3).alloc (Nat.le_refl _) bt0).mono BY.out.size))
    have c3b : (w3.alloc (.cells #[.int .i64 0, .int .i64 0, .slice none 0 0] 40)).cell? ⟨b, 3, none⟩ = some (.int .i64 t.sq) := (HT.out.still BY0.out).c3
    have CR3 := Lib.hid (CR.out w3.drew (BY.out.trans ((below_drew w3).mono BY.out.size)) s)
    have CR4 := Lib.hid (CR.out (w3.alloc bt0).drew (BY0.out.trans ((below_drew (w3.alloc bt0)).mono BY0.out.size)) s)
    go_region_law (first
      | (go_simp; go_at_call 26; first
          | ((with_reducible refine CR4.out.mono ?_); rintro e w4 ⟨x, D, d, rfl, hx, ox, b4⟩; have bb4 := (Below.refl w3.heap.size w3).alloc (Nat.le_refl _) bt0; have c34 := (HT.out.still (BY0.out.trans (((below_drew (w3.alloc bt0)).trans (b4.mono (below_drew (w3.alloc bt0)).size)).mono BY0.out.size))).c3; have BN := (BtB.new w3 0 0 none 0 0).below' ((below_drew (w3.alloc bt0)).trans (b4.mono (below_drew (w3.alloc bt0)).size)); have y0 := BN.c0; have y1 := BN.c1; have y2 := BN.c2; have v0 := BN.f 0; have v1 := BN.f 1; have v2 := BN.f 2; have HXX := Lib.hid hx; have OX := Lib.hid ox; have BZ := Lib.hid (BY0.out.trans (((below_drew (w3.alloc bt0)).trans (b4.mono (below_drew (w3.alloc bt0)).size)).mono BY0.out.size)); have BR := Lib.hid ((B3.out.alloc bt0).below' ((below_drew (w3.alloc bt0)).trans (b4.mono (below_drew (w3.alloc bt0)).size))); have BN := Lib.hid BN; clear hx ox b4 bb4)
          | ((with_reducible refine CR3.out.mono ?_); rintro e w4 ⟨x, D, d, rfl, hx, ox, b4⟩; have T4 := (HT.out.still (BY.out.trans (((below_drew w3).trans (b4.mono (below_drew w3).size)).mono BY.out.size))); have c34 := T4.c3; have c35 : (w4.alloc (.cells #[.int .i64 0, .int .i64 0, .slice none 0 0] 40)).cell? ⟨b, 3, none⟩ = some (.int .i64 t.sq) := (T4.still ((Below.refl _ w4).alloc (Nat.le_refl _) _)).c3; clear T4; have HXX := Lib.hid hx; have OX := Lib.hid ox; have BZ := Lib.hid (BY.out.trans (((below_drew w3).trans (b4.mono (below_drew w3).size)).mono BY.out.size)); have BR := Lib.hid (B3.out.below' ((below_drew w3).trans (b4.mono (below_drew w3).size))); clear hx ox b4))
      | fail)
    all_goals go_wp2_with fail
    all_goals
      go_meet
      first
        | exact ⟨_, x, D, d, rfl, Lib.hid (cmA BZ.out OX.out HW3.out HXX.out BR.out)⟩
        | exact ⟨_, x, D, d, rfl, Lib.hid (cmB BZ.out OX.out (Nat.le_trans HW3.out (by simp)) HXX.out BR.out BN.out (fun e => by have := HRL.out; omega) HW3.out)⟩
  case rest =>
    obtain ⟨xb, x, D, d, rfl, HC⟩ := hcut
    clear z0 c3 B3 BY CR HW3 HRL
    have HB : Hid (b < w.heap.size) := Lib.hid HT.out.lt
    go_wp2_with fail
    go_loopg [8, 9] (l.length) (fun g s8 s9 wx => ∃ (i : Nat) (E : Option Addr) (e' : Nat), i + g = l.length ∧ s8 = .slice E (leftW s (l.take i)).length e' ∧ s9 = .int .i64 i ∧ Hid (OwK wx wc.heap.size 67 4 E e' (leftW s (l.take i)).length (ptCells (leftW s (l.take i))) ∧ Below wc.heap.size wc wx))
    case atStart => exact ⟨0, none, 0, by omega, rfl, rfl, Lib.hid ⟨OwK.nil _ _ _ _, Below.refl _ _⟩⟩
    case round =>
      obtain ⟨i, E, e', hig, rfl, rfl, HW⟩ := hrel
      have T := HT.out.still (HC.out.bel.trans (HW.out.2.mono HC.out.bel.size))
      have c4 := T.c4
      have hll := HL.out
      cases gk with
      | succ g =>
        have x5 : i < l.length := by omega
        obtain ⟨p, hp⟩ : ∃ p, l[i]? = some p := ⟨_, List.getElem?_eq_getElem x5⟩
        obtain ⟨ga, rfl, hga, p0, p1, p2, p3⟩ := T.at hp
        have HN := Lib.hid (left_next (s := s) hp)
        obtain ⟨L0, hL0⟩ : ∃ L0, leftW s (l.take i) = L0 := ⟨_, rfl⟩
        have hL0l : L0.length ≤ i := by rw [← hL0]; exact Nat.le_trans (left_le _ _) (by rw [List.length_take]; omega)
        rw [hL0] at HN HW ⊢
        obtain ⟨s0, ⟨k, kd⟩, v⟩ := p
        dsimp only at p0 p1 p2 p3 HN
        clear hL0 hp hga T
        by_cases hs : s0 = s
        · have HE := HN.out
          rw [if_pos hs] at HE
          have HE := Lib.hid HE
          clear HN
          go_wp2_with fail
          go_roundg g
          case rel => exact ⟨i + 1, E, e', by omega, by rw [HE.out], by go_num, Lib.hid (by rw [HE.out]; exact HW.out)⟩
          case measure => omega
        · have HE := HN.out
          rw [if_neg hs] at HE
          have HE := Lib.hid HE
          obtain ⟨D2, d2, w6, r2, o2, b6, _⟩ := oneK elP HW.out.1 (es := ptOf ⟨s0, (k, kd), v⟩) rfl (fun u hu => by
            simp only [ptOf, List.mem_cons, List.not_mem_nil, or_false] at hu
            rcases hu with rfl | rfl | rfl | rfl <;> rfl) (ob := .cells #[.int .i64 s0, .string k, .int .i64 kd, .int .i64 v] 67) rfl (by omega) HW.out.2.size
          have HW6 : Hid (OwK w6 wc.heap.size 67 4 D2 d2 (leftW s (l.take (i + 1))).length (ptCells (leftW s (l.take (i + 1)))) ∧ Below wc.heap.size wc w6) := Lib.hid (by
            rw [HE.out, ptCells_app, List.length_append]
            refine ⟨?_, HW.out.2.trans b6⟩
            have e2 : ptCells [⟨s0, (k, kd), v⟩] = ptOf ⟨s0, (k, kd), v⟩ := by simp [ptCells]
            rw [e2]
            exact o2)
          have HLE : Hid ((leftW s (l.take (i + 1))).length = L0.length + 1) := Lib.hid (by rw [HE.out, List.length_append]; rfl)
          have R2 := Lib.hid r2
          clear HN r2 o2 b6 HW
          go_wp2_with (first
            | (at_builtin; refine wpK_app rfl (.tmp 47) (.tmp 55) 25 rfl _ _ _ rfl rfl R2.out ?_)
            | fail)
          go_roundg g
          case rel => exact ⟨i + 1, D2, d2, by omega, by rw [HLE.out], by go_num, HW6⟩
          case measure => omega
      | zero =>
        have x5 : ¬ i < l.length := by omega
        have HTK : Hid (l.take i = l) := Lib.hid (List.take_of_length_le (by omega))
        rw [HTK.out] at HW ⊢
        have c3 := T.c3
        have f3 := T.fr 3
        have f4 := T.fr 4
        have BB := Lib.hid (HC.out.bb.below' HW.out.2)
        have BR := Lib.hid (HC.out.br.below' HW.out.2)
        have hbx : b < w.heap.size := HB.out
        have nb1 : xb ≠ b := by have := HC.out.hx; omega
        have nb2 : rb ≠ b := by have := HRB.out; omega
        have nb3 := HC.out.ne
        have q0 := BB.out.c0
        have q1 := BB.out.c1
        have q2 := BB.out.c2
        have y0 := BR.out.c0
        have y1 := BR.out.c1
        have y2 := BR.out.c2
        have v0 := BR.out.f 0
        have v1 := BR.out.f 1
        have v2 := BR.out.f 2
        have TT := Lib.hid T
        have BWR := Lib.hid (HC.out.bel.trans (HW.out.2.mono HC.out.bel.size))
        have OX : Hid (OwnL wr w.heap.size D d x) := Lib.hid ⟨owns_below HC.out.own.own HW.out.2, fun y hy => owns_below (HC.out.own.bks y hy) HW.out.2⟩
        have HCS : Hid (w.heap.size ≤ wc.heap.size) := Lib.hid HC.out.bel.size
        have HRW : Hid (rb < wc.heap.size) := Lib.hid HC.out.br.lt
        have HCE := Lib.hid HC.out.eq
        clear T hig HC
        go_wp2_with fail
        obtain ⟨v1', hv1⟩ : ∃ v1', (wr.setCell ⟨b, 4, none⟩ (.slice E (leftW s l).length e')).setCell ⟨b, 3, none⟩ (.int .i64 (t.sq + 1)) = v1' := ⟨_, rfl⟩
        rw [hv1]
        have G1 : wr.grownBy v1' (some b) := by rw [← hv1]; exact gset (gset (grown_refl wr _))
        have hbk : v1'.heap[b]? = some (.cells #[.int .i64 t.wd, .int .i64 t.wi, .int .i64 t.ro, .int .i64 (t.sq + 1), .slice E (leftW s l).length e'] 27 (0, 0)) := by
          rw [← hv1]
          have h1 : (wr.setCell ⟨b, 4, none⟩ (.slice E (leftW s l).length e')).heap[b]? = some (.cells #[.int .i64 t.wd, .int .i64 t.wi, .int .i64 t.ro, .int .i64 t.sq, .slice E (leftW s l).length e'] 27 (0, 0)) := heap_set_same TT.out.blk
          exact heap_set_same h1
        have BR1 : BtB v1' rb 0 0 none 0 0 := BR.out.grown G1 (fun e => nb2 (Option.some.inj e).symm)
        have BF := bt_set BR1.blk (.int .i64 t.sq) (.int .i64 s) (.slice D x.length d)
        have G2 := bt_grown v1' rb (.int .i64 t.sq) (.int .i64 s) (.slice D x.length d)
        have KP : Keeps (fun g => g = b) w (((v1'.setCell ⟨rb, 0, none⟩ (.int .i64 t.sq)).setCell ⟨rb, 1, none⟩ (.int .i64 s)).setCell ⟨rb, 2, none⟩ (.slice D x.length d)) := by
          have k0 : Keeps (fun g => g = b) w v1' := by
            rw [← hv1]
            exact Keeps.set (Keeps.set (Keeps.of_below BWR.out (Nat.le_refl _) (fun g => g = b)) ⟨b, 4, none⟩ _ (.inl rfl)) ⟨b, 3, none⟩ _ (.inl rfl)
          have hr : w.heap.size ≤ rb := by have := HRB.out; omega
          exact Keeps.set (Keeps.set (Keeps.set k0 ⟨rb, 0, none⟩ _ (.inr hr)) ⟨rb, 1, none⟩ _ (.inr hr)) ⟨rb, 2, none⟩ _ (.inr hr)
        have kx : ∀ q, some b = some q → q < w.heap.size ∨ ∃ c f ty, wr.heap[q]? = some (.cells c ty f) ∧ ty ≠ 55 := fun q e => by cases e; exact .inl HB.out
        have kn : ∀ q, some b = some q → q < w.heap.size ∨ ∃ c f ty, wr.heap[q]? = some (.cells c ty f) ∧ ty ≠ 51 := fun q e => by cases e; exact .inl HB.out
        have kx2 : ∀ q, some rb = some q → q < w.heap.size ∨ ∃ c f ty, v1'.heap[q]? = some (.cells c ty f) ∧ ty ≠ 55 := fun q e => by cases e; exact .inr ⟨_, _, _, BR1.blk, by decide⟩
        have kn2 : ∀ q, some rb = some q → q < w.heap.size ∨ ∃ c f ty, v1'.heap[q]? = some (.cells c ty f) ∧ ty ≠ 51 := fun q e => by cases e; exact .inr ⟨_, _, _, BR1.blk, by decide⟩
        have OF : OwnL (((v1'.setCell ⟨rb, 0, none⟩ (.int .i64 t.sq)).setCell ⟨rb, 1, none⟩ (.int .i64 s)).setCell ⟨rb, 2, none⟩ (.slice D x.length d)) w.heap.size D d x :=
          ⟨owns_kept (owns_kept OX.out.own G1 kx) G2 kx2, fun y hy => owns_kept (owns_kept (OX.out.bks y hy) G1 kn) G2 kn2⟩
        have oE : OwK wr wc.heap.size 67 4 E e' (leftW s l).length (ptCells (leftW s l)) := HW.out.1
        have oF : OwK (((v1'.setCell ⟨rb, 0, none⟩ (.int .i64 t.sq)).setCell ⟨rb, 1, none⟩ (.int .i64 s)).setCell ⟨rb, 2, none⟩ (.slice D x.length d)) wc.heap.size 67 4 E e' (leftW s l).length (ptCells (leftW s l)) :=
          owns_kept (owns_kept oE G1 (fun q e => by cases e; exact .inl (by have := HB.out; have := HCS.out; omega))) G2 (fun q e => by cases e; exact .inl HRW.out)
        have TF : Tr base (((v1'.setCell ⟨rb, 0, none⟩ (.int .i64 t.sq)).setCell ⟨rb, 1, none⟩ (.int .i64 s)).setCell ⟨rb, 2, none⟩ (.slice D x.length d)) b { t with sq := t.sq + 1 } E e' (leftW s l) :=
          ⟨by rw [heap_set_other (a := ⟨rb, 2, none⟩) (fun e => nb2 e.symm), heap_set_other (a := ⟨rb, 1, none⟩) (fun e => nb2 e.symm), heap_set_other (a := ⟨rb, 0, none⟩) (fun e => nb2 e.symm)]; exact hbk, oF.mono (Nat.le_trans HX.out HCS.out)⟩
        have r0 := cell_of_block (o := 0) BF
        have r1 := cell_of_block (o := 1) BF
        have r2 := cell_of_block (o := 2) BF
        generalize ((v1'.setCell ⟨rb, 0, none⟩ (.int .i64 t.sq)).setCell ⟨rb, 1, none⟩ (.int .i64 s)).setCell ⟨rb, 2, none⟩ (.slice D x.length d) = vF at OF TF KP r0 r1 r2 ⊢
        have r0 : vF.cell? ⟨rb, 0, none⟩ = some (.int .i64 t.sq) := r0
        have r1 : vF.cell? ⟨rb, 1, none⟩ = some (.int .i64 s) := r1
        have r2 : vF.cell? ⟨rb, 2, none⟩ = some (.slice D x.length d) := r2
        refine bodyPost_ret (v := .tuple #[btVal t.sq s D x.length d, .bool true]) (by simp [results, Tryz.results12, go_sem, btVal, r0, r1, r2]) rfl ?_
        exact .inr ⟨HD.out, s, K, x, D, d, E, e', HS.out, HCE.out, rfl, OF, TF, KP⟩
end Go.Proofs.YtedhciolnekpaaaGreatDoor
