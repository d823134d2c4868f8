/-
  Layer 21: the law SpillPlays.
-/
import Derived.Test.YtgnkkcnmepafpaaGreatDoorQSpillEarly
import Derived.Test.YtgnkkcnmepafpaaGreatDoorQDeedS
namespace Go.Proofs.YtgnkkcnmepafpaaGreatDoor
open Go.ChangeShapes Go.WideShapes Go.ChangeAt Go.RowKit
set_option linter.unusedVariables false

section
variable {W w : World} {P Q : Side} {x : Nat} {a b c d : Int} {B : Option Addr} {N k : Nat}
/-- What a deed's block holds. -/
theorem Two.cells5 (h : Two W w P (QG x (.cells #[.int .i64 a, .int .i64 b, .int .i64 c, .int .i64 d, .slice B N k] 50 (0, 0)) Q)) :
    w.cell? ⟨x, 2, none⟩ = some (.int .i64 c) ∧ w.cell? ⟨x, 3, none⟩ = some (.int .i64 d) ∧ w.cell? ⟨x, 4, none⟩ = some (.slice B N k) := ⟨cell_of_block h.block, cell_of_block h.block, cell_of_block h.block⟩
theorem Two.cell1 (h : Two W w P (QG x (.cells #[.int .i64 a, .int .i64 b, .int .i64 c, .int .i64 d, .slice B N k] 50 (0, 0)) Q)) : w.cell? ⟨x, 1, none⟩ = some (.int .i64 b) := cell_of_block h.block
theorem Two.cell0 (h : Two W w P (QG x (.cells #[.int .i64 a, .int .i64 b, .int .i64 c, .int .i64 d, .slice B N k] 50 (0, 0)) Q)) : w.cell? ⟨x, 0, none⟩ = some (.int .i64 a) := cell_of_block h.block
end
/-- Both spills behind i deeds. -/
def At21 (W w : World) (sp ad ms mj m rm : Nat) (many room head : Int) (G : List Sg) (i : Nat) : Prop :=
  Two W w (PSp sp ad rm many room head G) (QSp ms mj m rm false many room head (pts' G)) ∧ SOk rm many room head G ∧ G.length ≤ 1 + i ∧ nxG G ≤ 2000 + (i : Int)
theorem At21.still {W w w' : World} {sp ad ms mj m rm : Nat} {many room head : Int} {G : List Sg} {i : Nat} (h : At21 W w sp ad ms mj m rm many room head G i) (hb : Below w.heap.size w w') : At21 W w' sp ad ms mj m rm many room head G i :=
  ⟨h.1.still (PSp.closed _ _ _ _ _ _ _) (QSp.closed _ _ _ _ _ _ _ _ _) hb, h.2⟩
set_option maxHeartbeats 8000000 in
set_option maxRecDepth 100000 in
theorem plays_walk (rm : Nat) (many room : Int) (A B : Option Addr) (ca cb : Nat) (fb : List UInt8) (l : List DeedS) (W : World) (hL : Laid W) (hrm : 1 ≤ rm ∧ rm ≤ 20000) (hfb : fb.length ≤ 2000) (hl : l.length ≤ 30) (hr : 1 ≤ room ∧ room ≤ 1000) (hm : 1 ≤ many ∧ many ≤ 100) (hA : RdS W A ca fb) (hB : RdDS W B l) (hf : ∀ t ∈ l, FitS t) :
    Calls Tryz.prog 3 #[.int .i64 (rm : Nat), .int .i64 many, .int .i64 room, .slice A fb.length ca, .slice B l.length cb] W (Holds W) := by
  have CU := Lib.hid (up_spill W hL)
  have eqc := eql_codes
  have x1 : ¬ (20000 : Int) < (rm : Int) := by omega
  have x2 : ¬ (2000 : Int) < (fb.length : Int) := by omega
  have x3 : ¬ (30 : Int) < (l.length : Int) := by omega
  have x4 : ¬ room < 1 := by omega
  have x5 : ¬ 1000 < room := by omega
  have x6 : ¬ many < 1 := by omega
  have x7 : ¬ 100 < many := by omega
  have HM := Lib.hid hm
  have HR := Lib.hid hr
  have HRM := Lib.hid hrm
  have HFB := Lib.hid hfb
  have HA := Lib.hid hA
  have HBD := Lib.hid hB
  have HF := Lib.hid hf
  have HW : Hid (6 ≤ W.heap.size) := Lib.hid hL.n
  have HL := Lib.hid hL
  clear hL hm hr hrm hfb hA hB hf
  go_enter Tryz.func3, Tryz.ntmps3
  go_wp2_with fail
  refine CU.out.mono ?_
  rintro e w1 ⟨rfl, b1⟩
  have C1 := Lib.hid (new_good w1 rm HRM.out.1 (by have := HRM.out.2; omega))
  have B1 := Lib.hid b1
  clear b1 CU
  go_wp2_with fail
  refine C1.out.mono ?_
  rintro e w2 ⟨ad, F, rfl, d2, b2, hF⟩
  have T3 : Two W (lay21 w2 rm many room) (PDk ad rm false []) (QSp (w2.heap.size + 1 + 1) (w2.heap.size + 1) w2.heap.size rm false many room 0 []) := lay_two (many := many) (room := room) (W := W) d2 ((HL.out.below B1.out).below b2) (fun g hg => by have := hF g hg; have := B1.out.size; omega) (B1.out.trans (b2.mono B1.out.size)) HW.out
  have C3 := T3.callP (QSp.closed _ _ _ _ _ _ _ _ _) (fun K p => firstP p (by have := HRM.out.2; omega) (HA.out.below T3.below (Nat.le_refl _)) HFB.out)
  unfold lay21 at C3
  replace C3 := Lib.hid C3
  clear C1 d2 b2 hF T3
  go_wp2_with fail
  refine C3.out.mono ?_
  rintro e w4 ⟨c4, rfl, T4⟩
  clear C3 x1 x2 x3 x4 x5 x6 x7
  generalize w2.heap.size = m at T4 ⊢
  generalize m + 1 = mj at T4 ⊢
  generalize mj + 1 = ms at T4 ⊢
  replace T4 := Lib.hid T4
  have C7 : Hid (∀ wx, Below w4.heap.size w4 wx → Calls Tryz.prog 8 #[.pointer (some ⟨m, 0, none⟩), .int .i64 0, .string ⟨fb.toArray⟩] wx fun e w' => e = .returned (.int .i64 ((opAppend rm false [] 0 fb).1 : Nat)) ∧ Two W w' (PDk ad rm false (opAppend rm false [] 0 fb).2) (QSp ms mj m rm false many room 0 (opAppend rm false [] 0 fb).2)) := Lib.hid (fun wx hx =>
    (T4.out.still (PDk.closed _ _ _ _) (QSp.closed _ _ _ _ _ _ _ _ _) hx).callQ (PDk.closed _ _ _ _) (fun M q => firstQ q (by have := HRM.out.2; omega) HFB.out))
  have S7 : Hid (∀ wx P L, Two W wx P (QSp ms mj m rm false many room 0 L) → (wx.cell? ⟨ms, 0, none⟩ = some (.pointer (some ⟨mj, 0, none⟩)) ∧ wx.cell? ⟨mj, 0, none⟩ = some (.pointer (some ⟨m, 0, none⟩))) ∧ (convert 22 9 (.slice A fb.length ca)).run Tryz.prog wx = .ok (.string ⟨fb.toArray⟩) wx) := Lib.hid (fun wx P L t => ⟨⟨t.cs.1, t.cs.2.2⟩, rd_conv (HA.out.below t.below (Nat.le_refl _))⟩)
  go_wp2_with fail
  go_region_held (fun w' => (w'.cell? ⟨ms, 0, none⟩ = some (.pointer (some ⟨mj, 0, none⟩)) ∧ w'.cell? ⟨mj, 0, none⟩ = some (.pointer (some ⟨m, 0, none⟩))) ∧ (convert 22 9 (.slice A fb.length ca)).run Tryz.prog w' = .ok (.string ⟨fb.toArray⟩) w')
    (first | exact S7.out _ _ _ (T4.out.still (PDk.closed _ _ _ _) (QSp.closed _ _ _ _ _ _ _ _ _) ⟨rfl, rfl, rfl, Nat.le_refl _, fun _ _ => rfl⟩) | assumption)
    (first
      | (go_at_call 8; refine (C7.out _ (by exact ⟨rfl, rfl, rfl, Nat.le_refl _, fun _ _ => rfl⟩)).mono ?_; rintro e w7 ⟨rfl, t7⟩; have s7 := S7.out _ _ _ t7; have T7 := Lib.hid t7; clear t7))
  all_goals
    clear C7 S7 T4 s7
    obtain ⟨G, eG, hi, hs, hfs, hlen, hnx, gok⟩ := first21 (rm := rm) (by have := HRM.out.2; omega) HM.out fb HFB.out
    rw [eG] at T7
    have hlo : 0 ≤ fsG G ∧ fsG G ≤ 1000000 := by rw [hfs]; omega
    have HG := Lib.hid (And.intro hlen (And.intro hnx gok))
    have HFS := Lib.hid hfs
    have HS := Lib.hid hs
    have HI := Lib.hid hi
    have HLO := Lib.hid hlo
    clear eG hi hs hfs hlen hnx gok hlo
    cases hok : recOk (fsG G) (recs G) with
    | false =>
      have C8 := Lib.hid (T7.out.callP (QSp.closed _ _ _ _ _ _ _ _ _) (fun K p => openP_no p HI.out HS.out HM.out HR.out hok))
      have CO : Hid (∀ wx, Two W wx PNo (QSp ms mj m rm false many room 0 (G.map Sg.pt)) → Calls Tryz.prog 10 #[.pointer (some ⟨ms, 0, none⟩)] wx fun e w' => e = .returned (.bool false) ∧ Two W w' PNo (QSp ms mj m rm false many room (fsG G) (pts' (cutG G)))) := Lib.hid (fun wx t => by
        have := t.callQ PNo.closed (fun M q => openQ q HS.out HI.out HLO.out)
        rw [hok] at this
        exact this)
      clear T7 HG HFS HS HI HLO hok
      go_wp2_with fail
      refine C8.out.mono ?_
      rintro e w8 ⟨_, rfl, T8⟩
      have C9 := Lib.hid (CO.out _ T8)
      clear C8 CO T8
      go_wp2_with fail
      refine C9.out.mono ?_
      rintro e w9 ⟨rfl, T9⟩
      have B9 := Lib.hid T9.below
      clear C9 T9
      go_wp2_with fail
      go_ret
      exact ⟨rfl, B9.out⟩
    | true =>
      have C8 := T7.out.callP (QSp.closed _ _ _ _ _ _ _ _ _) (fun K p => openP_ok p HI.out HS.out HM.out HR.out hok)
      have CO : Hid (∀ wx sp, Two W wx (PSp sp ad rm many room (fsG G) (cutG G)) (QSp ms mj m rm false many room 0 (G.map Sg.pt)) → Calls Tryz.prog 10 #[.pointer (some ⟨ms, 0, none⟩)] wx fun e w' => e = .returned (.bool true) ∧ At21 W w' sp ad ms mj m rm many room 0 (cutG G) 0) := Lib.hid (fun wx sp t => by
        have := t.callQ (PSp.closed _ _ _ _ _ _ _) (fun M q => openQ q HS.out HI.out HLO.out)
        rw [hok, HFS.out] at this
        exact this.mono fun e w' ⟨h1, h2⟩ => ⟨h1, h2, ok21 HR.out HG.out.2.2 HFS.out hok, by have := HG.out.1; omega, by have := HG.out.2.1; omega⟩)
      replace C8 := Lib.hid C8
      clear T7 HG HFS HS HI HLO hok
      go_wp2_with fail
      refine C8.out.mono ?_
      rintro e w8 ⟨sp, rfl, T8⟩
      have C9 := Lib.hid (CO.out _ _ T8)
      clear C8 CO T8
      go_wp2_with fail
      refine C9.out.mono ?_
      rintro e w9 ⟨rfl, A9⟩
      have A9 := Lib.hid A9
      clear C9
      go_wp2_with fail
      go_loopg [15, 18] (l.length) (fun g s15 s18 wx => ∃ (i sp : Nat) (head : Int) (G : List Sg), i + g = l.length ∧ s15 = .pointer (some ⟨sp, 0, none⟩) ∧ s18 = .int .i64 (i : Nat) ∧ Hid (At21 W wx sp ad ms mj m rm many room head G i))
      case atStart => exact ⟨0, sp, 0, cutG G, by omega, rfl, rfl, A9⟩
      case round =>
        clear A9
        obtain ⟨i, sp, head, G, hi, rfl, rfl, HA9⟩ := hrel
        cases gk with
        | zero =>
          have z1 : decide ((i : Int) < (l.length : Int)) = false := decide_eq_false (by omega)
          have BF := Lib.hid HA9.out.1.below
          clear HA9
          go_wp2_with fail
          go_ret
          exact ⟨rfl, BF.out⟩
        | succ g =>
          have hil : i < l.length := by omega
          have z1 : decide ((i : Int) < (l.length : Int)) = true := decide_eq_true (by omega)
          obtain ⟨t, ht⟩ : ∃ t, l[i]? = some t := ⟨l[i], List.getElem?_eq_getElem hil⟩
          obtain ⟨bA, oA, BR, cr, rfl, hcell⟩ := HBD.out.at ht
          obtain ⟨p0, p1, p2, p3, p4, _⟩ := hcell wr HA9.out.1.below
          have HRD : Hid (∀ wx, Below W.heap.size W wx → RdR wx BR t.b.rows) := Lib.hid (fun wx hx => (hcell wx hx).2.2.2.2.2)
          obtain ⟨fw, fn, fwide, ffit⟩ := HF.out t (List.mem_of_getElem? ht)
          have T5 := HA9.out.1.guest (c := #[.int .i64 t.what, .int .i64 t.n, .int .i64 t.b.seq, .int .i64 t.b.start, .slice BR t.b.rows.length cr]) (t := 50) (PSp.closed _ _ _ _ _ _ _) (QSp.closed _ _ _ _ _ _ _ _ _)
          have OK := Lib.hid HA9.out.2
          have CF := Lib.hid (fun wx (hx : Below W.heap.size W wx) => batchFew t.b BR cr wx (HRD.out wx hx) fwide)
          have FW := Lib.hid fw
          have FN := Lib.hid fn
          have FI := Lib.hid ffit
          replace T5 := Lib.hid T5
          clear hcell ht HA9 fw fn fwide ffit
          unfold btVal BB at CF
          go_wp2_with fail
          clear p0 p1 p2 p3 p4
          generalize wr.alloc (.cells #[.int .i64 t.what, .int .i64 t.n, .int .i64 t.b.seq, .int .i64 t.b.start, .slice BR t.b.rows.length cr] 50) = w5 at T5 ⊢
          generalize wr.heap.size = x at T5 ⊢
          refine (CF.out _ T5.out.below).mono ?_
          rintro e w6 ⟨rfl, b6⟩
          have T6 := Lib.hid (T5.out.still (PSp.closed _ _ _ _ _ _ _) (QG.closed (QSp.closed _ _ _ _ _ _ _ _ _)) b6)
          cases hfew : fewB t.b with
          | false =>
            have BF := Lib.hid T6.out.below
            clear CF T5 T6 OK HRD FW FN FI b6 hfew
            go_wp2_with fail
            go_ret
            exact ⟨rfl, BF.out⟩
          | true =>
          have HSZ := Lib.hid (few_sized hfew)
          have q0 := T6.out.cell0
          have CK := Lib.hid (pickS_walk w6 t.what FW.out.1 FW.out.2)
          have hp := pickS_lt t.what
          clear CF T5 b6 hfew FW
          go_wp2_with fail
          refine CK.out.mono ?_
          rintro e w7 ⟨rfl, rfl⟩
          clear CK
          go_upto_block 2 with fail
          go_cut [15, 16, 17] from 143 to 202 (fun v15 v16 v17 wx => ∃ (sp2 : Nat) (head2 : Int) (G2 : List Sg), v15 = .pointer (some ⟨sp2, 0, none⟩) ∧ Hid (Two W wx (PSp sp2 ad rm many room head2 G2) (QSp ms mj m rm false many room head2 (pts' G2)) ∧ SOk rm many room head2 G2 ∧ G2.length ≤ 2 + i ∧ nxG G2 ≤ 2001 + (i : Int)))
          case first =>
            rcases (by omega : pickS t.what = 0 ∨ pickS t.what = 1 ∨ pickS t.what = 2 ∨ pickS t.what = 3) with e | e | e | e <;> rw [e] <;> clear e hp
            · have CP : Hid (∀ wx, Below w7.heap.size w7 wx → Calls Tryz.prog 14 #[.pointer (some ⟨sp, 0, none⟩), .agg #[.int .i64 t.b.seq, .int .i64 t.b.start, .slice BR t.b.rows.length cr]] wx fun e w' => e = .returned (ErrV (putC rm room head G t.b)) ∧ Two W w' (PSp sp ad rm many room head (putS rm many room head G t.b)) (QG x (.cells #[.int .i64 t.what, .int .i64 t.n, .int .i64 t.b.seq, .int .i64 t.b.start, .slice BR t.b.rows.length cr] 50 (0, 0)) (QSp ms mj m rm false many room head (pts' G)))) := Lib.hid (fun wx hx => by
                have T := T6.out.still (PSp.closed _ _ _ _ _ _ _) (QG.closed (QSp.closed _ _ _ _ _ _ _ _ _)) hx
                exact (T.callP (P' := fun _ : Unit => PSp sp ad rm many room head (putS rm many room head G t.b)) (E := fun _ e => e = .returned (ErrV (putC rm room head G t.b))) (QG.closed (QSp.closed _ _ _ _ _ _ _ _ _)) (fun K p => (putP p OK.out.1 (HRD.out wx T.below) HSZ.out FI.out).mono fun e w' h => ⟨(), h⟩)).mono fun e w' ⟨_, h1, h2⟩ => ⟨h1, h2⟩)
              have CQ : Hid (∀ wx, Two W wx (PSp sp ad rm many room head (putS rm many room head G t.b)) (QG x (.cells #[.int .i64 t.what, .int .i64 t.n, .int .i64 t.b.seq, .int .i64 t.b.start, .slice BR t.b.rows.length cr] 50 (0, 0)) (QSp ms mj m rm false many room head (pts' G))) → Calls Tryz.prog 15 #[.pointer (some ⟨ms, 0, none⟩), .agg #[.int .i64 t.b.seq, .int .i64 t.b.start, .slice BR t.b.rows.length cr]] wx fun e w' => e = .returned (.int .i64 (putC rm room head G t.b : Nat)) ∧ Two W w' (PSp sp ad rm many room head (putS rm many room head G t.b)) (QG x (.cells #[.int .i64 t.what, .int .i64 t.n, .int .i64 t.b.seq, .int .i64 t.b.start, .slice BR t.b.rows.length cr] 50 (0, 0)) (QSp ms mj m rm false many room head (pts' (putS rm many room head G t.b))))) := Lib.hid (fun wx T =>
                T.callQ (PSp.closed _ _ _ _ _ _ _) (fun M q => q.call (fun M0 q0 => putQ q0 OK.out.1 (HRD.out wx T.below) HSZ.out FI.out)))
              have hc := putC_le rm room head G t.b
              have CC := Lib.hid (fun w => codeS_walk w _ hc)
              obtain ⟨o1, o2, o3⟩ := OK.out
              obtain ⟨o4, o5, o6⟩ := SOk.putS (b := t.b) o1 FI.out (by omega) (by omega)
              have FIN : Hid (SOk rm many room head (putS rm many room head G t.b) ∧ (putS rm many room head G t.b).length ≤ 2 + i ∧ nxG (putS rm many room head G t.b) ≤ 2001 + (i : Int)) := Lib.hid ⟨o4, by omega, by omega⟩
              have S6 := Lib.hid T6.out.cells5
              clear o1 o2 o3 o4 o5 o6 hc q0
              generalize putC rm room head G t.b = pc at CP CQ CC
              generalize putS rm many room head G t.b = G2 at CP CQ FIN
              have zz : ((pc : Int) == (pc : Int)) = true := by simp
              go_wp2_with fail
              go_region_held (fun w' => w'.cell? ⟨x, 2, none⟩ = some (.int .i64 t.b.seq) ∧ w'.cell? ⟨x, 3, none⟩ = some (.int .i64 t.b.start) ∧ w'.cell? ⟨x, 4, none⟩ = some (.slice BR t.b.rows.length cr))
                (first | exact S6.out | assumption)
                (first
                  | (go_at_call 14; refine (CP.out _ (by exact ⟨rfl, rfl, rfl, Nat.le_refl _, fun _ _ => rfl⟩)).mono ?_; rintro e w7 ⟨rfl, t7⟩; have s7 := t7.cells5)
                  | (go_at_call 13; refine (CC.out _).mono ?_; rintro e w8 ⟨rfl, rfl⟩)
                  | (go_at_call 15; refine (CQ.out _ t7).mono ?_; rintro e w9 ⟨rfl, t9⟩; have s9 := t9.cells5; have T9 := Lib.hid t9.drop; clear t9))
              all_goals go_wp2_with fail
              all_goals go_meet
              all_goals exact ⟨sp, head, G2, rfl, Lib.hid ⟨T9.out, FIN.out⟩⟩
            · have CP : Hid (∀ wx, Below w7.heap.size w7 wx → Calls Tryz.prog 14 #[.pointer (some ⟨sp, 0, none⟩), .agg #[.int .i64 t.b.seq, .int .i64 t.b.start, .slice BR t.b.rows.length cr]] wx fun e w' => e = .returned (ErrV (putC rm room head G t.b)) ∧ Two W w' (PSp sp ad rm many room head (putS rm many room head G t.b)) (QG x (.cells #[.int .i64 t.what, .int .i64 t.n, .int .i64 t.b.seq, .int .i64 t.b.start, .slice BR t.b.rows.length cr] 50 (0, 0)) (QSp ms mj m rm false many room head (pts' G)))) := Lib.hid (fun wx hx => by
                have T := T6.out.still (PSp.closed _ _ _ _ _ _ _) (QG.closed (QSp.closed _ _ _ _ _ _ _ _ _)) hx
                exact (T.callP (P' := fun _ : Unit => PSp sp ad rm many room head (putS rm many room head G t.b)) (E := fun _ e => e = .returned (ErrV (putC rm room head G t.b))) (QG.closed (QSp.closed _ _ _ _ _ _ _ _ _)) (fun K p => (putP p OK.out.1 (HRD.out wx T.below) HSZ.out FI.out).mono fun e w' h => ⟨(), h⟩)).mono fun e w' ⟨_, h1, h2⟩ => ⟨h1, h2⟩)
              have CQ : Hid (∀ wx, Two W wx (PSp sp ad rm many room head (putS rm many room head G t.b)) (QG x (.cells #[.int .i64 t.what, .int .i64 t.n, .int .i64 t.b.seq, .int .i64 t.b.start, .slice BR t.b.rows.length cr] 50 (0, 0)) (QSp ms mj m rm false many room head (pts' G))) → Calls Tryz.prog 15 #[.pointer (some ⟨ms, 0, none⟩), .agg #[.int .i64 t.b.seq, .int .i64 t.b.start, .slice BR t.b.rows.length cr]] wx fun e w' => e = .returned (.int .i64 (putC rm room head G t.b : Nat)) ∧ Two W w' (PSp sp ad rm many room head (putS rm many room head G t.b)) (QG x (.cells #[.int .i64 t.what, .int .i64 t.n, .int .i64 t.b.seq, .int .i64 t.b.start, .slice BR t.b.rows.length cr] 50 (0, 0)) (QSp ms mj m rm false many room head (pts' (putS rm many room head G t.b))))) := Lib.hid (fun wx T =>
                T.callQ (PSp.closed _ _ _ _ _ _ _) (fun M q => q.call (fun M0 q0 => putQ q0 OK.out.1 (HRD.out wx T.below) HSZ.out FI.out)))
              have hc := putC_le rm room head G t.b
              have CC := Lib.hid (fun w => codeS_walk w _ hc)
              obtain ⟨o1, o2, o3⟩ := OK.out
              obtain ⟨o4, o5, o6⟩ := SOk.putS (b := t.b) o1 FI.out (by omega) (by omega)
              have FIN : Hid (SOk rm many room head (putS rm many room head G t.b) ∧ (putS rm many room head G t.b).length ≤ 2 + i ∧ nxG (putS rm many room head G t.b) ≤ 2001 + (i : Int)) := Lib.hid ⟨o4, by omega, by omega⟩
              have S6 := Lib.hid T6.out.cells5
              clear o1 o2 o3 o4 o5 o6 hc q0
              generalize putC rm room head G t.b = pc at CP CQ CC
              generalize putS rm many room head G t.b = G2 at CP CQ FIN
              have zz : ((pc : Int) == (pc : Int)) = true := by simp
              go_wp2_with fail
              go_region_held (fun w' => w'.cell? ⟨x, 2, none⟩ = some (.int .i64 t.b.seq) ∧ w'.cell? ⟨x, 3, none⟩ = some (.int .i64 t.b.start) ∧ w'.cell? ⟨x, 4, none⟩ = some (.slice BR t.b.rows.length cr))
                (first | exact S6.out | assumption)
                (first
                  | (go_at_call 14; refine (CP.out _ (by exact ⟨rfl, rfl, rfl, Nat.le_refl _, fun _ _ => rfl⟩)).mono ?_; rintro e w7 ⟨rfl, t7⟩; have s7 := t7.cells5)
                  | (go_at_call 13; refine (CC.out _).mono ?_; rintro e w8 ⟨rfl, rfl⟩)
                  | (go_at_call 15; refine (CQ.out _ t7).mono ?_; rintro e w9 ⟨rfl, t9⟩; have s9 := t9.cells5; have T9 := Lib.hid t9.drop; clear t9))
              all_goals go_wp2_with fail
              all_goals go_meet
              all_goals exact ⟨sp, head, G2, rfl, Lib.hid ⟨T9.out, FIN.out⟩⟩
            · have CP : Hid (∀ wx, Below w7.heap.size w7 wx → Calls Tryz.prog 16 #[.pointer (some ⟨sp, 0, none⟩), .int .i64 t.n] wx fun e w' => e = .returned (ErrV (ackC head G t.n)) ∧ Two W w' (PSp sp ad rm many room (ackH head G t.n) (ackG head G t.n)) (QG x (.cells #[.int .i64 t.what, .int .i64 t.n, .int .i64 t.b.seq, .int .i64 t.b.start, .slice BR t.b.rows.length cr] 50 (0, 0)) (QSp ms mj m rm false many room head (pts' G)))) := Lib.hid (fun wx hx => by
                have T := T6.out.still (PSp.closed _ _ _ _ _ _ _) (QG.closed (QSp.closed _ _ _ _ _ _ _ _ _)) hx
                exact (T.callP (P' := fun _ : Unit => PSp sp ad rm many room (ackH head G t.n) (ackG head G t.n)) (E := fun _ e => e = .returned (ErrV (ackC head G t.n))) (QG.closed (QSp.closed _ _ _ _ _ _ _ _ _)) (fun K p => (ackP p OK.out.1).mono fun e w' h => ⟨(), h⟩)).mono fun e w' ⟨_, h1, h2⟩ => ⟨h1, h2⟩)
              have CQ : Hid (∀ wx, Two W wx (PSp sp ad rm many room (ackH head G t.n) (ackG head G t.n)) (QG x (.cells #[.int .i64 t.what, .int .i64 t.n, .int .i64 t.b.seq, .int .i64 t.b.start, .slice BR t.b.rows.length cr] 50 (0, 0)) (QSp ms mj m rm false many room head (pts' G))) → Calls Tryz.prog 17 #[.pointer (some ⟨ms, 0, none⟩), .int .i64 t.n] wx fun e w' => e = .returned (.int .i64 (ackC head G t.n : Nat)) ∧ Two W w' (PSp sp ad rm many room (ackH head G t.n) (ackG head G t.n)) (QG x (.cells #[.int .i64 t.what, .int .i64 t.n, .int .i64 t.b.seq, .int .i64 t.b.start, .slice BR t.b.rows.length cr] 50 (0, 0)) (QSp ms mj m rm false many room (ackH head G t.n) (pts' (ackG head G t.n))))) := Lib.hid (fun wx T =>
                T.callQ (PSp.closed _ _ _ _ _ _ _) (fun M q => q.call (fun M0 q0 => ackQ q0 OK.out.1)))
              have hc := ackC_le head G t.n
              have CC := Lib.hid (fun w => codeS_walk w _ hc)
              obtain ⟨o1, o2, o3⟩ := OK.out
              obtain ⟨o4, o5, o6⟩ := SOk.ackS (n := t.n) o1
              have FIN : Hid (SOk rm many room (ackH head G t.n) (ackG head G t.n) ∧ (ackG head G t.n).length ≤ 2 + i ∧ nxG (ackG head G t.n) ≤ 2001 + (i : Int)) := Lib.hid ⟨o4, by omega, by omega⟩
              have S6 := Lib.hid T6.out.cell1
              clear o1 o2 o3 o4 o5 o6 hc q0
              generalize ackC head G t.n = pc at CP CQ CC
              generalize ackG head G t.n = G2 at CP CQ FIN
              generalize ackH head G t.n = h2 at CP CQ FIN
              have zz : ((pc : Int) == (pc : Int)) = true := by simp
              go_wp2_with fail
              go_region_held (fun w' => w'.cell? ⟨x, 1, none⟩ = some (.int .i64 t.n))
                (first | exact S6.out | assumption)
                (first
                  | (go_at_call 16; refine (CP.out _ (by exact ⟨rfl, rfl, rfl, Nat.le_refl _, fun _ _ => rfl⟩)).mono ?_; rintro e w7 ⟨rfl, t7⟩; have s7 := t7.cell1)
                  | (go_at_call 13; refine (CC.out _).mono ?_; rintro e w8 ⟨rfl, rfl⟩)
                  | (go_at_call 17; refine (CQ.out _ t7).mono ?_; rintro e w9 ⟨rfl, t9⟩; have s9 := t9.cell1; have T9 := Lib.hid t9.drop; clear t9))
              all_goals go_wp2_with fail
              all_goals go_meet
              all_goals exact ⟨sp, h2, G2, rfl, Lib.hid ⟨T9.out, FIN.out⟩⟩
            · have CP := Lib.hid (T6.out.callP (QG.closed (QSp.closed _ _ _ _ _ _ _ _ _)) (fun K p => crashP p OK.out.1.g t.n FN.out.2))
              have q1 := T6.out.cell1
              clear q0
              go_wp2_with fail
              refine CP.out.mono ?_
              rintro e w8 ⟨_, rfl, T8⟩
              replace T8 := Lib.hid T8
              clear CP q1
              have CQ : Hid (∀ wx, Below w8.heap.size w8 wx → Calls Tryz.prog 19 #[.pointer (some ⟨m, 0, none⟩), .int .i64 t.n] wx fun e w' => e = .returned (.tuple #[]) ∧ Two W w' (PDk ad rm true (pts' G)) (QG x (.cells #[.int .i64 t.what, .int .i64 t.n, .int .i64 t.b.seq, .int .i64 t.b.start, .slice BR t.b.rows.length cr] 50 (0, 0)) (QSp ms mj m rm true many room head (pts' G)))) := Lib.hid (fun wx hx =>
                (T8.out.still (PDk.closed _ _ _ _) (QG.closed (QSp.closed _ _ _ _ _ _ _ _ _)) hx).callQ (PDk.closed _ _ _ _) (fun M q => q.call (fun M0 q0 => crashQ q0 OK.out.1.g t.n FN.out.2)))
              have SS : Hid (∀ wx dn, Two W wx (PDk ad rm true (pts' G)) (QG x (.cells #[.int .i64 t.what, .int .i64 t.n, .int .i64 t.b.seq, .int .i64 t.b.start, .slice BR t.b.rows.length cr] 50 (0, 0)) (QSp ms mj m rm dn many room head (pts' G))) → wx.cell? ⟨ms, 0, none⟩ = some (.pointer (some ⟨mj, 0, none⟩)) ∧ wx.cell? ⟨mj, 0, none⟩ = some (.pointer (some ⟨m, 0, none⟩)) ∧ wx.cell? ⟨x, 1, none⟩ = some (.int .i64 t.n)) := Lib.hid (fun wx dn T => ⟨T.drop.cs.1, T.drop.cs.2.2, T.cell1⟩)
              go_wp2_with fail
              go_region_held (fun w' => w'.cell? ⟨ms, 0, none⟩ = some (.pointer (some ⟨mj, 0, none⟩)) ∧ w'.cell? ⟨mj, 0, none⟩ = some (.pointer (some ⟨m, 0, none⟩)) ∧ w'.cell? ⟨x, 1, none⟩ = some (.int .i64 t.n))
                (first | exact SS.out _ _ (T8.out.still (PDk.closed _ _ _ _) (QG.closed (QSp.closed _ _ _ _ _ _ _ _ _)) ⟨rfl, rfl, rfl, Nat.le_refl _, fun _ _ => rfl⟩) | assumption)
                (first
                  | (go_at_call 19; refine (CQ.out _ (by exact ⟨rfl, rfl, rfl, Nat.le_refl _, fun _ _ => rfl⟩)).mono ?_; rintro e w9 ⟨rfl, t9⟩; have s9 := SS.out _ _ t9; have T9 := Lib.hid t9.drop; clear t9))
              all_goals
                clear CQ SS s9 T8 T6
                obtain ⟨o1, o2, o3⟩ := OK.out
                have hok := rec_recOk o1.rec_
                have hi : Inv rm (G.map Sg.pt) := o1.g.inv
                have hs := o1.g.clean.segs (by omega)
                have hlo : 0 ≤ fsG G ∧ fsG G ≤ 1000000 := by have h1 := o1.g.clean.lo; have h2 := o1.h0; have h3 := o1.g.nx; have h4 := o1.h1; omega
                have C8 := T9.out.callP (QSp.closed _ _ _ _ _ _ _ _ _) (fun K p => openP_ok (G := G) p hi hs HM.out HR.out hok)
                rw [clean_cut o1.g.clean] at C8
                have CO : Hid (∀ wx sp, Two W wx (PSp sp ad rm many room (fsG G) G) (QSp ms mj m rm true many room head (pts' G)) → Calls Tryz.prog 10 #[.pointer (some ⟨ms, 0, none⟩)] wx fun e w' => e = .returned (.bool true) ∧ Two W w' (PSp sp ad rm many room (fsG G) G) (QSp ms mj m rm false many room (fsG G) (pts' G))) := Lib.hid (fun wx sp T => by
                  have := T.callQ (PSp.closed _ _ _ _ _ _ _) (fun M q => openQ (G := G) q hs hi hlo)
                  rw [hok, clean_cut o1.g.clean] at this
                  exact this)
                have FIN : Hid (SOk rm many room (fsG G) G ∧ G.length ≤ 2 + i ∧ nxG G ≤ 2001 + (i : Int)) := Lib.hid ⟨o1.again, by omega, by omega⟩
                replace C8 := Lib.hid C8
                clear o1 o2 o3 hok hi hs hlo T9
                go_wp2_with fail
                refine C8.out.mono ?_
                rintro e w10 ⟨sp2, rfl, T10⟩
                replace CO := Lib.hid (CO.out _ _ T10)
                clear C8 T10
                go_wp2_with fail
                refine CO.out.mono ?_
                rintro e w11 ⟨rfl, T11⟩
                replace T11 := Lib.hid T11
                clear CO
                go_wp2_with fail
                go_meet
                exact ⟨sp2, fsG G, G, rfl, Lib.hid ⟨T11.out, FIN.out⟩⟩
          case rest =>
            obtain ⟨sp2, head2, G2, rfl, HC⟩ := hcut
            clear T6 OK HSZ HRD FN FI hp q0
            obtain ⟨b, r, is, hseq, hr, cH, cF⟩ := heads HC.out.2.1
            have C1 : Hid (Calls Tryz.prog 20 #[.pointer (some ⟨sp2, 0, none⟩)] wc fun e w' => ∃ B c A cap, e = .returned (.tuple #[btVal b.seq b.start B b.rows.length c, .slice A r.length cap, .bool is]) ∧ RdS w' A cap r ∧ Below wc.heap.size wc w') := Lib.hid (by
              obtain ⟨K, M, p, q, _⟩ := HC.out.1
              exact cH _ _ p)
            have CF := Lib.hid (fun wx (T : Two W wx (PSp sp2 ad rm many room head2 G2) (QSp ms mj m rm false many room head2 (pts' G2))) => by
              obtain ⟨K, M, p, q, _⟩ := T
              exact cF _ _ q)
            unfold btVal at C1
            have HSQ := Lib.hid hseq
            clear cH cF hseq hr
            go_wp2_with fail
            refine C1.out.mono ?_
            rintro e w8 ⟨B8, c8, A8, cap8, rfl, r8, b8⟩
            have b9 := b8.alloc b8.size (.cells #[.int .i64 b.seq, .int .i64 b.start, .slice B8 b.rows.length c8] 48)
            have T9 := Lib.hid (HC.out.1.still (PSp.closed _ _ _ _ _ _ _) (QSp.closed _ _ _ _ _ _ _ _ _) b9)
            have r9 := Lib.hid (r8.alloc (.cells #[.int .i64 b.seq, .int .i64 b.start, .slice B8 b.rows.length c8] 48))
            have k9 := Lib.hid (heap_alloc_new w8 (.cells #[.int .i64 b.seq, .int .i64 b.start, .slice B8 b.rows.length c8] 48))
            have C2 := Lib.hid (CF.out _ T9.out)
            clear C1 CF r8 b8 b9
            go_wp2_with fail
            refine C2.out.mono ?_
            rintro e w10 ⟨rfl, b10⟩
            have T10 := Lib.hid (T9.out.still (PSp.closed _ _ _ _ _ _ _) (QSp.closed _ _ _ _ _ _ _ _ _) b10)
            have SS : Hid (∀ wx, Below w10.heap.size w10 wx → (wx.cell? ⟨ms, 0, none⟩ = some (.pointer (some ⟨mj, 0, none⟩)) ∧ wx.cell? ⟨ms, 2, none⟩ = some (.int .i64 head2) ∧ wx.cell? ⟨mj, 0, none⟩ = some (.pointer (some ⟨m, 0, none⟩))) ∧ (convert 22 9 (.slice A8 r.length cap8)).run Tryz.prog wx = .ok (.string ⟨r.toArray⟩) wx ∧ wx.cell? ⟨w8.heap.size, 0, none⟩ = some (.int .i64 b.seq)) := Lib.hid (fun wx hx => by
              have hb := b10.trans (hx.mono b10.size)
              exact ⟨(T10.out.still (PSp.closed _ _ _ _ _ _ _) (QSp.closed _ _ _ _ _ _ _ _ _) hx).cs, rd_conv (r9.out.below hb (Nat.le_refl _)), cell_of_block ((hb.block _ (lt_of_block k9.out)).trans k9.out)⟩)
            have CL := Lib.hid (fun wx (hx : Below w10.heap.size w10 wx) => (ask_len T10.out HC.out.2.1 wx hx).mono fun e w' h => And.intro h.1 h.2.1)
            have CN := Lib.hid (fun wx (hx : Below w10.heap.size w10 wx) => (ask_next T10.out HC.out.2.1 wx hx).mono fun e w' h => And.intro h.1 h.2.1)
            have CR := Lib.hid (fun wx (hx : Below w10.heap.size w10 wx) => (ask_nextR T10.out HC.out.2.1 wx hx).mono fun e w' h => And.intro h.1 h.2.1)
            have CU := Lib.hid (fun wx (hx : Below w10.heap.size w10 wx) => (ask_used T10.out wx hx).mono fun e w' h => And.intro h.1 h.2.1)
            have CV := Lib.hid (fun wx (hx : Below w10.heap.size w10 wx) => (ask_usedR T10.out HC.out.2.1 wx hx).mono fun e w' h => And.intro h.1 h.2.1)
            have z2 : IntKind.i64.wrap (nxG G2 - head2) = nxG G2 - head2 := IntWalk.i64_in _ (by have h1 := HC.out.2.1.bds; have h2 := HC.out.2.1.h1; have h3 := HC.out.2.1.g.nx; omega)
            have FIN : Hid (∀ wx, Below w10.heap.size w10 wx → At21 W wx sp2 ad ms mj m rm many room head2 G2 (i + 1)) := Lib.hid (fun wx hx => ⟨T10.out.still (PSp.closed _ _ _ _ _ _ _) (QSp.closed _ _ _ _ _ _ _ _ _) hx, HC.out.2.1, by have := HC.out.2.2.1; omega, by have := HC.out.2.2.2; omega⟩)
            have q8 : w8.heap.size < w10.heap.size := Nat.lt_of_lt_of_le (lt_of_block k9.out) b10.size
            clear C2 T9 r9 k9 b10 T10 HC
            generalize w8.heap.size = y at SS q8 ⊢
            generalize nxG G2 = N1 at CL CN CR z2
            generalize used (pts' G2) = U1 at CU CV
            generalize r.length = NR at SS ⊢
            generalize b.rows.length = NB at *
            have z3 : ((N1 - head2) == (N1 - head2)) = true := by simp
            have z4 : (N1 == N1) = true := by simp
            have z5 : ((U1 : Int) == (U1 : Int)) = true := by simp
            cases is
            all_goals
              go_wp2_with fail
              go_region_held (fun w' => (w'.cell? ⟨ms, 0, none⟩ = some (.pointer (some ⟨mj, 0, none⟩)) ∧ w'.cell? ⟨ms, 2, none⟩ = some (.int .i64 head2) ∧ w'.cell? ⟨mj, 0, none⟩ = some (.pointer (some ⟨m, 0, none⟩))) ∧ (convert 22 9 (.slice A8 NR cap8)).run Tryz.prog w' = .ok (.string ⟨r.toArray⟩) w' ∧ w'.cell? ⟨y, 0, none⟩ = some (.int .i64 b.seq))
                (first | exact SS.out _ ⟨rfl, rfl, rfl, Nat.le_refl _, fun _ _ => rfl⟩ | assumption)
                (first
                  | (go_at_call 22; refine (CL.out _ (by first | assumption | exact ⟨rfl, rfl, rfl, Nat.le_refl _, fun _ _ => rfl⟩)).mono ?_; rintro e wk ⟨rfl, bk⟩; have sk := SS.out _ bk)
                  | (go_at_call 24; refine (CN.out _ (by first | assumption | exact ⟨rfl, rfl, rfl, Nat.le_refl _, fun _ _ => rfl⟩)).mono ?_; rintro e wk ⟨rfl, bk⟩; have sk := SS.out _ bk)
                  | (go_at_call 23; refine (CR.out _ (by first | assumption | exact ⟨rfl, rfl, rfl, Nat.le_refl _, fun _ _ => rfl⟩)).mono ?_; rintro e wk ⟨rfl, bk⟩; have sk := SS.out _ bk)
                  | (go_at_call 25; refine (CU.out _ (by first | assumption | exact ⟨rfl, rfl, rfl, Nat.le_refl _, fun _ _ => rfl⟩)).mono ?_; rintro e wk ⟨rfl, bk⟩; have sk := SS.out _ bk)
                  | (go_at_call 26; refine (CV.out _ (by first | assumption | exact ⟨rfl, rfl, rfl, Nat.le_refl _, fun _ _ => rfl⟩)).mono ?_; rintro e wk ⟨rfl, bk⟩; have sk := SS.out _ bk; have BK := Lib.hid bk))
            all_goals
              obtain ⟨⟨s0, s2, s1⟩, scv, s8⟩ := sk
              have FW := Lib.hid (FIN.out _ BK.out)
              clear SS CL CN CR CU CV FIN
              go_wp2_with fail
            · go_quiet (fail)
              all_goals go_wp2_with fail
              all_goals go_roundg g
              case rel => exact ⟨i + 1, sp2, head2, G2, by omega, rfl, by go_num, Lib.hid (FW.out.still ⟨rfl, rfl, rfl, Nat.le_refl _, fun _ _ => rfl⟩)⟩
              case measure => omega
            · have z6 : (b.seq == head2) = true := beq_iff_eq.2 (HSQ.out (by first | rfl | trivial))
              go_quiet (fail)
              all_goals go_wp2_with fail
              all_goals go_roundg g
              case rel => exact ⟨i + 1, sp2, head2, G2, by omega, rfl, by go_num, Lib.hid (FW.out.still ⟨rfl, rfl, rfl, Nat.le_refl _, fun _ _ => rfl⟩)⟩
              case measure => omega
end Go.Proofs.YtgnkkcnmepafpaaGreatDoor
