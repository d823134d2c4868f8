/-
  Layer 24: the law SenderTries.
-/
import Derived.Test.YtgeahpfdaehjaaaGreatDoorGrpR
namespace Go.Proofs.YtgeahpfdaehjaaaGreatDoor
open Go.ChangeShapes Go.WideShapes Go.ChangeAt Go.RowKit
set_option linter.unusedVariables false

/-- Both senders behind i deeds. -/
def At24 (W w : World) (x sp wb fb ad y ms wr fr mj m : Nat) (c : Nz) (i : Nat) (z : Zs) : Prop :=
  Two W w (PSn x sp wb fb ad c z) (QSn y ms wr fr mj m c z) ∧ Iz c i z
theorem start24 {W w : World} {K : Nat → Prop} {x sp wb fb ad wr fr : Nat} {b l f p : Int} (hn : 6 ≤ W.heap.size) (h : Sq W w K x sp wb fb ad ⟨2000, 3, 100, b, l, f, p⟩ ⟨0, 0, Fz.new, 0, []⟩) (hw : Wr w wr b l 0) (hf : Fb 40 w fr f p Fz.new) (hne : wr ≠ fr) (h1 : W.heap.size ≤ wr) (h2 : W.heap.size ≤ fr) (n1 : ¬ K wr) (n2 : ¬ K fr) (gb : GoodB b l) (gf : GoodF f p) :
    At24 W (lay24 w wr fr) x sp wb fb ad (w.heap.size + 1 + 1 + 1) (w.heap.size + 1 + 1) wr fr (w.heap.size + 1) w.heap.size ⟨2000, 3, 100, b, l, f, p⟩ 0 ⟨0, 0, Fz.new, 0, []⟩ := by
  obtain ⟨M, r, hm, bl⟩ := lay_24 hw hf hne
  obtain ⟨s, h3, h4⟩ := h
  have hlt := s.lt
  refine ⟨⟨K, M, s.below bl, r, fun g hg hM => ?_, h3, fun g hg => ?_, h4.trans (bl.mono h4.size), hn⟩, ZOk.new gb gf (SOk.nil (by dsimp only; omega) (by dsimp only; omega) (by dsimp only; omega)), R5.nil 0, Int.le_refl _, Nat.le_refl _, Nat.le_refl _⟩
  · rcases hm g hM with e | e | e
    · exact n1 (by rw [← e]; exact hg)
    · exact n2 (by rw [← e]; exact hg)
    · have := hlt g hg; omega
  · have := h4.size
    rcases hm g hg with e | e | e <;> omega
section
variable {W w : World} {P Q : Side} {x : Nat} {a b : Int}
theorem Two.cells3 (h : Two W w P (QG x (.cells #[.int .i64 a, .int .i64 b, .slice none 0 0] 60 (0, 0)) Q)) :
    w.cell? ⟨x, 0, none⟩ = some (.int .i64 a) ∧ w.cell? ⟨x, 1, none⟩ = some (.int .i64 b) ∧ w.cell? ⟨x, 2, none⟩ = some (.slice none 0 0) := ⟨cell_of_block h.block, cell_of_block h.block, cell_of_block h.block⟩
end
section
variable {W w : World} {P : Side} {y ms wr fr mj m : Nat} {c : Nz} {z : Zs}
theorem Two.rn (h : Two W w P (QSn y ms wr fr mj m c z)) : w.cell? ⟨y, 3, none⟩ = some (.int .i64 z.tk) ∧ w.cell? ⟨ms, 2, none⟩ = some (.int .i64 z.head) := by
  obtain ⟨K, M, _, q, _⟩ := h
  exact ⟨Rn24.c3 q, Rn24.s2 q⟩
end
theorem code_le (now out : Int) : codeZ now out ≤ 10 := by unfold codeZ; split <;> omega
set_option maxHeartbeats 8000000 in
set_option maxRecDepth 100000 in
theorem tries_walk (b lim f p : Int) (A : Option Addr) (cap : Nat) (l : List Qd) (W : World) (hL : Laid W) (g : GoodB b lim) (k : GoodF f p) (hm : l.length ≤ 100) (hA : RdQd W A l) (hF : ∀ d ∈ l, FitQ d) :
    Calls Tryz.prog 3 #[.int .i64 b, .int .i64 lim, .int .i64 f, .int .i64 p, .slice A l.length cap] W (Holds W) := by
  have CU := Lib.hid (up_send W hL)
  have HL := Lib.hid hL
  have HA := Lib.hid hA
  have HF := Lib.hid hF
  have HG := Lib.hid g
  have HK := Lib.hid k
  obtain ⟨N, hN⟩ : ∃ N, l.length = N := ⟨_, rfl⟩
  have HN := Lib.hid hN
  rw [hN] at hm ⊢
  have x3 : ¬ (100 : Int) < (N : Int) := by omega
  have CG : Hid (∀ (w : World) (a : Nat), Wr w a b lim 0 → Calls Tryz.prog 9 #[.pointer (some ⟨a, 0, none⟩)] w fun e w' => e = .returned (.bool true) ∧ ∃ q, w' = w.drewN q) := Lib.hid (fun w a h => refB_yes h g)
  have CH : Hid (∀ (w : World) (a : Nat), Fb 40 w a f p Fz.new → Calls Tryz.prog 10 #[.pointer (some ⟨a, 0, none⟩)] w fun e w' => e = .returned (.bool true) ∧ ∃ q, w' = w.drewN q) := Lib.hid (fun w a h => refF_yes h k)
  clear hL hA hF hN g k
  go_enter Tryz.func3, Tryz.ntmps3
  go_wp2_with fail
  refine CU.out.mono ?_
  rintro e w1 ⟨rfl, b1⟩
  have C1 := Lib.hid (new_good w1 2000 (by omega) (by omega))
  have B1 := Lib.hid b1
  clear b1 CU
  go_wp2_with fail
  refine C1.out.mono ?_
  rintro e w2 ⟨ad, F, rfl, d2, b2, hF⟩
  have C2 := Lib.hid (open24 ((HL.out.below B1.out).below b2) (B1.out.trans (b2.mono B1.out.size)) (fun g hg => by have := hF g hg; have := B1.out.size; omega) HL.out.n 2000 (by omega) d2)
  clear C1 d2 b2 hF B1
  go_wp2_with fail
  refine C2.out.mono ?_
  rintro e w3 ⟨sp, aj, K3, rfl, S3⟩
  have C3 : Hid (Calls Tryz.prog 8 #[.pointer (some ⟨sp, 0, none⟩), .int .i64 b, .int .i64 lim, .int .i64 f, .int .i64 p] w3 fun e w' => ∃ x wb fb K, e = .returned (.tuple #[.pointer (some ⟨x, 0, none⟩), .nilIface]) ∧ Sq W w' K x sp wb fb ad ⟨2000, 3, 100, b, lim, f, p⟩ ⟨0, 0, Fz.new, 0, []⟩) := Lib.hid ((newZ_good (c := ⟨2000, 3, 100, b, lim, f, p⟩) S3.1 HG.out HK.out).mono fun e w' ⟨x, wb, fb, K, e1, s, m⟩ => by
    obtain ⟨q1, q2⟩ := m.below S3.2.1 S3.2.2.size
    exact ⟨x, wb, fb, K, e1, s, q2, S3.2.2.trans q1⟩)
  clear C2 S3
  go_wp2_with fail
  refine C3.out.mono ?_
  rintro e w4 ⟨x, wb, fb, K4, rfl, Q4⟩
  have B4 := (below_new w4 (waitR24 b lim)).trans ((below_new (w4.alloc (waitR24 b lim)) (fuseR24 f p)).mono (by simp))
  have Q5 := Lib.hid (Q4.still B4)
  have R5 := Lib.hid ((wait_laid24 w4 b lim).still (below_new _ (fuseR24 f p)))
  have F5 := fuse_laid24 (w4.alloc (waitR24 b lim)) f p
  rw [World.size_alloc] at F5
  have F5 := Lib.hid F5
  have L5 := Lib.hid (And.intro Q4.1.lt Q4.2.2.size)
  have Z5 : Hid (((w4.alloc (waitR24 b lim)).alloc (fuseR24 f p)).heap.size = w4.heap.size + 2) := Lib.hid (by simp only [World.size_alloc])
  have C5 := Lib.hid (CG.out _ _ R5.out)
  have C6 := Lib.hid (fun q => CH.out _ _ (F5.out.drewN q))
  clear C3 CG CH Q4 B4
  go_wp2_with fail
  refine C5.out.mono ?_
  rintro e w6 ⟨rfl, q, rfl⟩
  clear C5
  go_wp2_with fail
  refine (C6.out _).mono ?_
  rintro e w7 ⟨rfl, q2, e7⟩
  clear C6
  have Q7 : Hid (Sq W w7 K4 x sp wb fb ad ⟨2000, 3, 100, b, lim, f, p⟩ ⟨0, 0, Fz.new, 0, []⟩) := Lib.hid (by rw [e7, drew_drew]; exact Q5.out.still (below_drewN _ _))
  have R7 : Hid (Wr w7 w4.heap.size b lim 0) := Lib.hid (by rw [e7, drew_drew]; exact R5.out.drewN _)
  have F7 : Hid (Fb 40 w7 (w4.heap.size + 1) f p Fz.new) := Lib.hid (by rw [e7, drew_drew]; exact F5.out.drewN _)
  have L7 : Hid (W.heap.size ≤ w4.heap.size ∧ ¬ K4 w4.heap.size ∧ ¬ K4 (w4.heap.size + 1)) := Lib.hid ⟨L5.out.2, fun e => by have := L5.out.1 _ e; omega, fun e => by have := L5.out.1 _ e; omega⟩
  clear Q5 R5 F5 L5 Z5 e7
  generalize w4.heap.size = wq at *
  have T7 := start24 HL.out.n Q7.out R7.out F7.out (by omega) L7.out.1 (by have := L7.out.1; omega) L7.out.2.1 L7.out.2.2 HG.out HK.out
  unfold lay24 at T7
  have T7 := Lib.hid T7
  obtain ⟨c, hc⟩ : ∃ c : Nz, (⟨2000, 3, 100, b, lim, f, p⟩ : Nz) = c := ⟨_, rfl⟩
  have HC : Hid (c.rm = 2000 ∧ c.room = 100) := Lib.hid (by rw [← hc]; exact ⟨rfl, rfl⟩)
  rw [hc] at T7
  clear Q7 R7 F7 L7 hc
  go_wp2_with fail
  generalize w7.heap.size = m at T7 ⊢
  generalize m + 1 = mj at T7 ⊢
  generalize mj + 1 = ms at T7 ⊢
  generalize ms + 1 = y at T7 ⊢
  go_loopg [22] N (fun g s22 wx => ∃ i z, i + g = N ∧ s22 = .int .i64 (i : Nat) ∧ Hid (At24 W wx x sp wb fb ad y ms wq (wq + 1) mj m c i z))
  case atStart => exact ⟨0, ⟨0, 0, Fz.new, 0, []⟩, by omega, rfl, T7⟩
  case round =>
    clear T7
    obtain ⟨i, z, hi, rfl, HT⟩ := hrel
    cases gk with
    | zero =>
      have z1 : decide ((i : Int) < (N : Int)) = false := decide_eq_false (by omega)
      have BF := Lib.hid HT.out.1.below
      clear HT
      go_wp2_with fail
      go_ret
      exact ⟨rfl, BF.out⟩
    | succ g =>
      have hiN : i < N := by omega
      have z1 : decide ((i : Int) < (N : Int)) = true := decide_eq_true (by omega)
      obtain ⟨d, hd⟩ : ∃ d, l[i]? = some d := ⟨l[i]'(by have := HN.out; omega), List.getElem?_eq_getElem _⟩
      obtain ⟨t0, o0, j0⟩ := HF.out d (List.mem_of_getElem? hd)
      obtain ⟨bA, oA, rfl, hat⟩ := HA.out.at hd
      have PC := Lib.hid (fun wx (hx : Below W.heap.size W wx) => hat wx hx)
      have ps := PC.out _ HT.out.1.below
      have p0 := ps.1
      clear hat hd
      cases hp : d.p with
      | true =>
        rw [hp] at p0
        have PO := HT.out.2.may (by omega) HC.out.1 HC.out.2
        have IZ := Lib.hid (HT.out.2.put PO (by omega))
        have CN := Lib.hid (HT.out.1.askP (fun K h => Sn.askS h (fun K0 aj s => nextS s HT.out.2.ok.sp.g)))
        have CQ : Hid (∀ wx X o, Two W wx (PSn x sp wb fb ad c (putZ c z)) (QG X o (QSn y ms wq (wq + 1) mj m c z)) → Calls Tryz.prog 14 #[.pointer (some ⟨ms, 0, none⟩), .agg #[.int .i64 (nxG z.G), .int .i64 0, .slice none 0 0]] wx fun e w' => e = .returned (.int .i64 0) ∧ Two W w' (PSn x sp wb fb ad c (putZ c z)) (QG X o (QSn y ms wq (wq + 1) mj m c (putZ c z)))) := Lib.hid (fun wx X o T => T.callQ (PSn.closed _ _ _ _ _ _ _) (fun M q => q.call (fun M0 q0 => putQn q0 HT.out.2.ok PO)))
        have CP : Hid (∀ wx X o, Two W wx (PSn x sp wb fb ad c z) (QG X o (QSn y ms wq (wq + 1) mj m c z)) → Calls Tryz.prog 13 #[.pointer (some ⟨sp, 0, none⟩), .agg #[.int .i64 (nxG z.G), .int .i64 0, .slice none 0 0]] wx fun e w' => e = .returned .nilIface ∧ Two W w' (PSn x sp wb fb ad c (putZ c z)) (QG X o (QSn y ms wq (wq + 1) mj m c z))) := Lib.hid (fun wx X o T =>
          (T.callP (P' := fun _ : Unit => PSn x sp wb fb ad c (putZ c z)) (E := fun _ e => e = .returned .nilIface) (QG.closed (QSn.closed _ _ _ _ _ _ _ _)) (fun K h => (putPn h HT.out.2.ok PO).mono fun e w' h => ⟨(), h⟩)).mono fun e w' ⟨_, h1, h2⟩ => ⟨h1, h2⟩)
        have CC : Hid (∀ w, Calls Tryz.prog 12 #[.nilIface] w fun e w' => e = .returned (.int .i64 0) ∧ w' = w) := Lib.hid (fun w => code24_walk w 0 (by omega))
        have TT := Lib.hid HT.out.1
        clear HT ps PC PO
        generalize nxG z.G = nx at CN CP CQ
        generalize putZ c z = z2 at CP CQ IZ
        go_wp2_with fail
        refine CN.out.mono ?_
        rintro e w5 ⟨rfl, m5, e5⟩
        have T5 : Hid (Two W (w5.alloc (.cells #[.int .i64 nx, .int .i64 0, .slice none 0 0] 60)) (PSn x sp wb fb ad c z) (QG w5.heap.size (.cells #[.int .i64 nx, .int .i64 0, .slice none 0 0] 60 (0, 0)) (QSn y ms wq (wq + 1) mj m c z))) := Lib.hid (by
          have := TT.out.still (PSn.closed _ _ _ _ _ _ _) (QSn.closed _ _ _ _ _ _ _ _) (below_drewN _ m5)
          rw [← e5] at this
          exact this.guest (PSn.closed _ _ _ _ _ _ _) (QSn.closed _ _ _ _ _ _ _ _))
        clear CN TT p0 e5
        go_wp2_with fail
        generalize w5.alloc (.cells #[.int .i64 nx, .int .i64 0, .slice none 0 0] 60) = w6 at T5 ⊢
        generalize w5.heap.size = X at T5 ⊢
        have S6 := Lib.hid T5.out.cells3
        go_region_held (fun w' => w'.cell? ⟨X, 0, none⟩ = some (.int .i64 nx) ∧ w'.cell? ⟨X, 1, none⟩ = some (.int .i64 0) ∧ w'.cell? ⟨X, 2, none⟩ = some (.slice none 0 0))
          (first | exact S6.out | assumption)
          (first
            | (go_at_call 13; refine (CP.out _ _ _ (T5.out.still (PSn.closed _ _ _ _ _ _ _) (QG.closed (QSn.closed _ _ _ _ _ _ _ _)) (by exact ⟨rfl, rfl, rfl, Nat.le_refl _, fun _ _ => rfl⟩))).mono ?_; rintro e w7 ⟨rfl, t7⟩; have s7 := t7.cells3)
            | (go_at_call 12; refine (CC.out _).mono ?_; rintro e w8 ⟨rfl, rfl⟩)
            | (go_at_call 14; refine (CQ.out _ _ _ t7).mono ?_; rintro e w9 ⟨rfl, t9⟩; have s9 := t9.cells3; have T9 := Lib.hid t9.drop; clear t9))
        all_goals
          clear CP CQ CC T5 S6 s9 s7 t7
          go_wp2_with fail
          go_roundg g
          case rel => exact ⟨i + 1, z2, by omega, by go_num, Lib.hid ⟨T9.out, IZ.out⟩⟩
          case measure => omega
      | false =>
        have IZ := Lib.hid (HT.out.2.send d.t d.o d.j)
        have OKZ := Lib.hid HT.out.2.ok
        have hn := HT.out.2.n
        have C3 : Hid (∀ wx, Below wr.heap.size wr wx → Calls Tryz.prog 15 #[.pointer (some ⟨x, 0, none⟩), .int .i64 d.t, .int .i64 d.o, .int .i64 d.j] wx fun e w' => ∃ A cap, e = .returned (.tuple #[.slice A (tellZ c z d.t d.o).length cap, .bool (sentZ c z d.t d.o), ErrV (codeZ d.t d.o)]) ∧ Mid W w' A cap (tellZ c z d.t d.o) (PSn x sp wb fb ad c (sendZ c z d.t d.o d.j)) (QSn y ms wq (wq + 1) mj m c z)) := Lib.hid (fun wx hx => tryP (HT.out.1.still (PSn.closed _ _ _ _ _ _ _) (QSn.closed _ _ _ _ _ _ _ _) hx) OKZ.out (by omega) d.t d.o d.j j0.1 j0.2)
        have C4 : Hid (∀ wx A cap t z', Mid W wx A cap t (PSn x sp wb fb ad c z') (QSn y ms wq (wq + 1) mj m c z) → Calls Tryz.prog 16 #[.pointer (some ⟨y, 0, none⟩), .int .i64 d.t, .int .i64 d.o, .int .i64 d.j] wx fun e w' => e = .returned (.tuple #[.string ⟨(tellZ c z d.t d.o).toArray⟩, .bool (sentZ c z d.t d.o), .int .i64 (codeZ d.t d.o : Nat)]) ∧ Two W w' (PSn x sp wb fb ad c z') (QSn y ms wq (wq + 1) mj m c (sendZ c z d.t d.o d.j)) ∧ RdS w' A cap t) := Lib.hid (fun wx A cap t z' h => tryQ h OKZ.out (by omega) d.t d.o d.j j0.1 j0.2)
        have hc := code_le d.t d.o
        generalize tellZ c z d.t d.o = t at C3 C4
        generalize sentZ c z d.t d.o = is at C3 C4
        generalize codeZ d.t d.o = rc at C3 C4 hc
        generalize sendZ c z d.t d.o d.j = z2 at C3 C4 IZ
        have CC := Lib.hid (fun w => code24_walk w rc hc)
        rw [hp] at p0
        clear HT OKZ hc hn
        go_wp2_with fail
        clear p0
        go_region_held (fun w' => w'.cell? ⟨bA, oA + i * 4, none⟩ = some (.bool d.p) ∧ w'.cell? ⟨bA, oA + i * 4 + 1, none⟩ = some (.int .i64 d.t) ∧ w'.cell? ⟨bA, oA + i * 4 + 2, none⟩ = some (.int .i64 d.o) ∧ w'.cell? ⟨bA, oA + i * 4 + 3, none⟩ = some (.int .i64 d.j))
          (first | exact ps | assumption)
          (first
            | (go_at_call 15; refine (C3.out _ (by exact ⟨rfl, rfl, rfl, Nat.le_refl _, fun _ _ => rfl⟩)).mono ?_; rintro e w6 ⟨A6, cap6, rfl, m6⟩; have s6 := PC.out _ m6.below; have M6 := Lib.hid m6; clear m6))
        all_goals
          clear C3 ps
          go_wp2_with fail
          go_region_held (fun w' => w'.cell? ⟨bA, oA + i * 4, none⟩ = some (.bool d.p) ∧ w'.cell? ⟨bA, oA + i * 4 + 1, none⟩ = some (.int .i64 d.t) ∧ w'.cell? ⟨bA, oA + i * 4 + 2, none⟩ = some (.int .i64 d.o) ∧ w'.cell? ⟨bA, oA + i * 4 + 3, none⟩ = some (.int .i64 d.j))
            (first | exact s6 | assumption)
            (first
              | (go_at_call 16; refine (C4.out _ _ _ _ _ (M6.out.still (PSn.closed _ _ _ _ _ _ _) (QSn.closed _ _ _ _ _ _ _ _) (by exact ⟨rfl, rfl, rfl, Nat.le_refl _, fun _ _ => rfl⟩))).mono ?_; rintro e w8 ⟨rfl, t8, r8⟩; have s8 := PC.out _ t8.below; have T8 := Lib.hid t8; have R8 := Lib.hid r8; clear t8 r8))
          all_goals
            clear C4 M6 s6 s8 PC
            have CL : Hid (∀ wx, Below w8.heap.size w8 wx → Calls Tryz.prog 18 #[.pointer (some ⟨sp, 0, none⟩)] wx fun e w' => e = .returned (.int .i64 (nxG z2.G - z2.head)) ∧ Below w8.heap.size w8 w') := Lib.hid (fun wx hx => (T8.out.still (PSn.closed _ _ _ _ _ _ _) (QSn.closed _ _ _ _ _ _ _ _) hx).askP (fun K h => Sn.askS h (fun K0 aj s => (lenS s IZ.out.ok.sp).mono fun e w' ⟨e1, q, e2⟩ => ⟨e1, by rw [e2]; exact hx.trans ((below_drewN _ q).mono hx.size)⟩)))
            have CA : Hid (∀ wx, Below w8.heap.size w8 wx → Calls Tryz.prog 17 #[.pointer (some ⟨x, 0, none⟩)] wx fun e w' => e = .returned (.int .i64 z2.tk) ∧ w' = wx) := Lib.hid (fun wx hx => (T8.out.still (PSn.closed _ _ _ _ _ _ _) (QSn.closed _ _ _ _ _ _ _ _) hx).askP (fun K h => (at_walk h).mono fun e w' ⟨e1, e2⟩ => ⟨e1, e2.symm⟩))
            have CN : Hid (∀ wx, Below w8.heap.size w8 wx → Calls Tryz.prog 19 #[.pointer (some ⟨ms, 0, none⟩)] wx fun e w' => e = .returned (.int .i64 (nxG z2.G)) ∧ Below w8.heap.size w8 w') := Lib.hid (fun wx hx => (T8.out.still (PSn.closed _ _ _ _ _ _ _) (QSn.closed _ _ _ _ _ _ _ _) hx).askQ (fun M h => Rn24.askS h (fun M0 s => (rs_next s IZ.out.ok.sp.g).mono fun e w' ⟨e1, e2⟩ => ⟨e1, hx.trans (e2.mono hx.size)⟩)))
            have SS : Hid (∀ wx, Below w8.heap.size w8 wx → (wx.cell? ⟨y, 3, none⟩ = some (.int .i64 z2.tk) ∧ wx.cell? ⟨ms, 2, none⟩ = some (.int .i64 z2.head)) ∧ (convert 64 9 (.slice A6 t.length cap6)).run Tryz.prog wx = .ok (.string ⟨t.toArray⟩) wx) := Lib.hid (fun wx hx => ⟨(T8.out.still (PSn.closed _ _ _ _ _ _ _) (QSn.closed _ _ _ _ _ _ _ _) hx).rn, rd_conv (R8.out.below hx (Nat.le_refl _))⟩)
            have FIN : Hid (∀ wx, Below w8.heap.size w8 wx → At24 W wx x sp wb fb ad y ms wq (wq + 1) mj m c (i + 1) z2) := Lib.hid (fun wx hx => ⟨T8.out.still (PSn.closed _ _ _ _ _ _ _) (QSn.closed _ _ _ _ _ _ _ _) hx, IZ.out⟩)
            have y1 : IntKind.i64.wrap (nxG z2.G - z2.head) = nxG z2.G - z2.head := IntWalk.i64_in _ (by have h1 := IZ.out.ok.sp.bds; omega)
            clear T8 R8 IZ
            generalize nxG z2.G = nx at CL CN y1
            generalize z2.head = hd at CL SS y1
            generalize z2.tk = tk at CA SS
            generalize t.length = NT at SS ⊢
            have y2 : ((nx - hd) == (nx - hd)) = true := by simp
            have y3 : (tk == tk) = true := by simp
            have y4 : ((rc : Int) == (rc : Int)) = true := by simp
            have y5 : (is == is) = true := by simp
            go_wp2_with fail
            go_region_held (fun w' => (w'.cell? ⟨y, 3, none⟩ = some (.int .i64 tk) ∧ w'.cell? ⟨ms, 2, none⟩ = some (.int .i64 hd)) ∧ (convert 64 9 (.slice A6 NT cap6)).run Tryz.prog w' = .ok (.string ⟨t.toArray⟩) w')
              (first | exact SS.out _ ⟨rfl, rfl, rfl, Nat.le_refl _, fun _ _ => rfl⟩ | assumption)
              (first
                | (go_at_call 12; refine (CC.out _).mono ?_; rintro e wk ⟨rfl, rfl⟩)
                | (go_at_call 17; refine (CA.out _ (by first | assumption | exact ⟨rfl, rfl, rfl, Nat.le_refl _, fun _ _ => rfl⟩)).mono ?_; rintro e wk ⟨rfl, rfl⟩)
                | (go_at_call 18; refine (CL.out _ (by first | assumption | exact ⟨rfl, rfl, rfl, Nat.le_refl _, fun _ _ => rfl⟩)).mono ?_; rintro e wk ⟨rfl, bk⟩; have sk := SS.out _ bk)
                | (go_at_call 19; refine (CN.out _ (by first | assumption | exact ⟨rfl, rfl, rfl, Nat.le_refl _, fun _ _ => rfl⟩)).mono ?_; rintro e wk ⟨rfl, bk⟩; have sk := SS.out _ bk; have BK := Lib.hid bk))
            all_goals
              have FW := Lib.hid (FIN.out _ BK.out)
              clear SS CL CN CA CC FIN
              go_wp2_with fail
              go_roundg g
              case rel => exact ⟨i + 1, z2, by omega, by go_num, FW⟩
              case measure => omega
theorem tries_any {b lim f p : Int} {A : Option Addr} {cap : Nat} {l : List Qd} {W : World} (hL : Laid W) (hA : RdQd W A l) (hF : ∀ d ∈ l, FitQ d) :
    Calls Tryz.prog 3 #[.int .i64 b, .int .i64 lim, .int .i64 f, .int .i64 p, .slice A l.length cap] W (Holds W) := by
  by_cases g : GoodB b lim
  · by_cases k : GoodF f p
    · rcases Nat.lt_or_ge 100 l.length with h | h
      · exact tries_many b lim f p A l.length cap hL g k h
      · exact tries_walk b lim f p A cap l W hL g k h hA hF
    · exact tries_badF b lim f p A l.length cap hL g k
  · exact tries_badB b lim f p A l.length cap hL g
end Go.Proofs.YtgeahpfdaehjaaaGreatDoor
