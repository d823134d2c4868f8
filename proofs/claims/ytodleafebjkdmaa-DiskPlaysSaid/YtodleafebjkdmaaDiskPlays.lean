/-
  Layer 8: the law DiskPlays.
-/
import Derived.Test.YtodleafebjkdmaaDiskStart
import Derived.Deep.CutBlock
import Derived.Deep.DeepCutAuto
namespace Go.Proofs.Ytodleafebjkdmaa
open Go.ChangeShapes Go.WideShapes Go.ChangeAt Go.RowKit
set_option linter.unusedVariables false

theorem drew_drew (w : World) (q r : Nat) : (w.drewN q).drewN r = w.drewN (q + r) := by simp [World.drewN, Nat.add_assoc]
theorem read_at {rm : Nat} {L : List Pt} (h : Inv rm L) {j : Nat} {p : Pt} (hp : L[j]? = some p) : opRead false L p.n = (0, p.b) := by
  have hs := split p.n L h.rise
  have hm := List.mem_of_getElem? hp
  have hf : find p.n L = some p := by
    cases hs with
    | has x q y hq hx hy =>
      rcases List.mem_append.1 hm with h1 | h1
      · have := hx p h1; omega
      · rcases List.mem_cons.1 h1 with rfl | h1
        · exact find_has rfl hx
        · have := hy p h1; omega
    | no x y hx hy =>
      rcases List.mem_append.1 hm with h1 | h1
      · have := hx p h1; omega
      · have := hy p h1; omega
  unfold opRead
  rw [if_pos (miss_some hf), bytes_some hf]
/-- A row of bytes of one's own, whatever they are. -/
def OwnU (w : World) (g len cp : Nat) : Prop := ∃ zs : List Int, zs.length = len ∧ w.ownsRow 0 5 1 (.slice (some ⟨g, 0, none⟩) len cp) len (zs.map (Value.int .u8))
theorem own_same {w w' : World} {g cp : Nat} {l : List UInt8} (h : OB w 0 (.slice (some ⟨g, 0, none⟩) l.length cp) l) (hs : w'.heap[g]? = w.heap[g]?) : OwnU w' g l.length cp := by
  refine ⟨l.map (fun x => (x.toNat : Int)), by rw [List.length_map], ?_⟩
  have e : (l.map (fun x => (x.toNat : Int))).map (Value.int .u8) = Lib.byteCells l := by unfold Lib.byteCells; rw [List.map_map]; rfl
  rw [e]
  refine ⟨h.1, ?_⟩
  rcases h.2 with h | ⟨g', c', cur, e', hb, hg, r⟩
  · exact .inl h
  · cases e'
    exact .inr ⟨g, cp, cur, rfl, hb, hs.trans hg, r⟩
theorem ownU_cell {w : World} {g len cp : Nat} {zs : List Int} (h : w.ownsRow 0 5 1 (.slice (some ⟨g, 0, none⟩) len cp) len (zs.map (Value.int .u8))) {j : Nat} {z : Int} (hz : zs[j]? = some z) : w.cell? ⟨g, j, none⟩ = some (.int .u8 z) := by
  have := World.ownsRow.cells h (g := g) rfl j _ (by rw [List.getElem?_map, hz]; rfl)
  rw [Addr.add_lit, Nat.zero_add] at this
  exact this
theorem ownU_set {w : World} {g len cp : Nat} {zs : List Int} (hl : zs.length = len) (h : w.ownsRow 0 5 1 (.slice (some ⟨g, 0, none⟩) len cp) len (zs.map (Value.int .u8))) (j : Nat) (z : Int) : OwnU (w.setCell ⟨g, j, none⟩ (.int .u8 z)) g len cp :=
  ⟨zs.set j z, by rw [List.length_set]; exact hl, by rw [List.map_set]; exact (World.ownsRow.stored h j _).1⟩
/-- Both disks at the head of round k. -/
def At8 (W wx : World) (a m rm k : Nat) : Prop := ∃ dn L, Bo W wx [] a m rm dn L dn L ∧ Inv rm L ∧ L.length ≤ k
set_option maxRecDepth 100000 in
set_option maxHeartbeats 4000000 in
theorem plays_walk (rm : Nat) (A : Option Addr) (c : Nat) (dl : List De) (W : World) (hA : RdDe W A dl) (hF : ∀ d ∈ dl, FitD d) (h0 : 1 ≤ rm) (h1 : rm ≤ 65536) (hn : dl.length ≤ 100) :
    Calls Try.prog 3 #[.int .i64 (rm : Nat), .slice A dl.length c] W (Holds W) := by
  have CU := Lib.hid (up_disk W)
  have CN := Lib.hid (fun w => new_good w rm h0 h1)
  have i1 : ¬ ((rm : Int) < 1) := by omega
  have i2 : ¬ ((65536 : Int) < rm) := by omega
  have i3 : ¬ (100 : Int) < dl.length := by omega
  have HA := Lib.hid hA
  have HF := Lib.hid hF
  clear hA hF
  go_enter Try.func3, Try.ntmps3
  go_wp2_with fail
  refine CU.out.mono ?_
  rintro e w1 ⟨rfl, b1⟩
  have B1 := Lib.hid b1
  clear b1 CU
  go_wp2_with fail
  refine (CN.out _).mono ?_
  rintro e w2 ⟨a, F, rfl, hd, b2, hF⟩
  have hz1 := B1.out.size
  have HB := Lib.hid (bo_start hd (fun g hg => Nat.le_trans hz1 (hF g hg)) (B1.out.trans (b2.mono hz1)))
  clear b2 hd hF B1 CN hz1
  go_wp2_with fail
  generalize w2.alloc (.cells #[.int .i64 (rm : Nat), .slice none 0 0, .bool false] 33) = w3 at HB ⊢
  generalize w2.heap.size = m at HB ⊢
  go_loopg [9] (dl.length) (fun g s9 wx => ∃ (k : Nat), k + g = dl.length ∧ s9 = .int .i64 k ∧ Hid (At8 W wx a m rm k))
  case atStart => exact ⟨0, by omega, rfl, Lib.hid ⟨false, [], HB.out, Inv.nil h1, Nat.le_refl _⟩⟩
  case round =>
    clear HB
    obtain ⟨k, hk, rfl, HB⟩ := hrel
    cases gk with
    | zero =>
      have x1 : decide ((k : Int) < (dl.length : Int)) = false := decide_eq_false (by omega)
      obtain ⟨dn, L, hB, hI, hL⟩ := HB.out
      have CU := Lib.hid hB.upP
      have HI := Lib.hid hI
      clear hB hI HB
      go_wp2_with fail
      refine CU.out.mono ?_
      rintro e w6 ⟨rfl, b6, _⟩
      obtain ⟨A6, c6, hR6⟩ := b6.ref
      have HB6 := Lib.hid b6
      clear b6 CU hR6
      go_wp2_with fail
      go_loopg [21] (L.length) (fun g s21 wx => ∃ (j : Nat), j + g = L.length ∧ s21 = .int .i64 j ∧ Hid (Bo W wx [] a m rm false L dn L))
      case atStart => exact ⟨0, by omega, rfl, HB6⟩
      case round =>
        clear HB6
        obtain ⟨j, hj, rfl, HB7⟩ := hrel
        obtain ⟨A7, c7, hR7⟩ := HB7.out.ref
        have m1 := hR7.c1
        cases gk with
        | zero =>
          have z2 : decide ((j : Int) < (L.length : Int)) = false := decide_eq_false (by omega)
          have hbe := Lib.hid HB7.out.below
          clear hR7 HB7
          go_wp2_with fail
          go_ret
          exact ⟨rfl, hbe.out⟩
        | succ gk3 =>
          have z2 : decide ((j : Int) < (L.length : Int)) = true := decide_eq_true (by omega)
          have hjl : j < L.length := by omega
          obtain ⟨p, hp⟩ : ∃ p, L[j]? = some p := ⟨L[j], List.getElem?_eq_getElem hjl⟩
          obtain ⟨gA, rfl, d0, _, _, _⟩ := hR7.idx hp
          have C7 := HB7.out.readP p.n HI.out (by have := HI.out.lo p (List.mem_of_getElem? hp); omega) (HI.out.hi p (List.mem_of_getElem? hp))
          rw [read_at HI.out hp] at C7
          have hpl : p.b.length ≤ 65536 := by have := used_mem (List.mem_of_getElem? hp); have := HI.out.fits; have := HI.out.room; omega
          have C7 := Lib.hid C7
          have HP := Lib.hid hp
          clear hR7 HB7 hp
          go_wp2_with fail
          refine C7.out.mono ?_
          rintro e w8 ⟨A8, c8, rfl, r8, b8, _⟩
          simp only [ErrV_0]
          obtain ⟨A9, c9, hR9⟩ := b8.ref
          have m9 := hR9.c1
          obtain ⟨gB, rfl, _, d1, _, _⟩ := hR9.idx HP.out
          have cv : ∀ n, (convert 34 9 (.slice A8 p.b.length c8)).run Try.prog (w8.drewN n) = .ok (.string ⟨p.b.toArray⟩) (w8.drewN n) := fun n => rd_conv (r8.drew n)
          have HB8 := Lib.hid b8
          clear m1 d0 C7 r8 b8 hR9
          go_wp2_with fail
          go_quiet (fail)
          all_goals go_wp2_with fail
          all_goals go_roundg gk3
          case rel => exact ⟨j + 1, by omega, by go_num, Lib.hid (HB8.out.drewN _)⟩
          case measure => omega
    | succ gk =>
      have hkl : k < dl.length := by omega
      have x1 : decide ((k : Int) < (dl.length : Int)) = true := decide_eq_true (by omega)
      obtain ⟨d, hd⟩ : ∃ d, dl[k]? = some d := ⟨dl[k], List.getElem?_eq_getElem hkl⟩
      obtain ⟨bA, oA, B, cb, rfl, ha⟩ := HA.out.at hd
      obtain ⟨⟨ft0, ft1⟩, ⟨fn0, fn1⟩, ⟨fz0, fz1⟩, fb⟩ := HF.out d (List.mem_of_getElem? hd)
      unfold maxLen at fb
      obtain ⟨dn, L, hB, hI, hL⟩ := HB.out
      have ha1 := ha.below hB.below
      have p0 := ha1.p0
      have p1 := ha1.p1
      have p2 := ha1.p2
      have p3 := ha1.p3
      have HBS := Lib.hid ha.bs
      have HI := Lib.hid hI
      have HBo := Lib.hid hB
      clear hd ha ha1 hB hI HB
      by_cases hlong : 500 < d.b.length
      · have x2 : decide ((500 : Int) < (d.b.length : Int)) = true := decide_eq_true (by omega)
        go_wp2_with fail
        go_ret
        exact ⟨rfl, HBo.out.below.alloc HBo.out.below.size _⟩
      have hlong : d.b.length ≤ 500 := by omega
      have x2 : decide ((500 : Int) < (d.b.length : Int)) = false := decide_eq_false (by omega)
      obtain ⟨g, cp, w4, R4, o4, b4, e4⟩ := own_start HBo.out HBS.out hlong
      have HR4 := Lib.hid R4
      unfold deObj at HR4 e4
      have HO4 := Lib.hid o4
      have HB4 := Lib.hid b4
      have HE4 := Lib.hid e4
      have q0 : w4.cell? ⟨wr.heap.size, 0, none⟩ = some (.int .i64 d.t) := cell_of_block e4
      have CP := Lib.hid (pick_walk w4 d.t ft0 ft1)
      clear R4 o4 b4 e4
      go_wp2_with (first | (at_builtin; refine wpList_append_two rfl (.tmp 84) (.tmp 86) 34 34 rfl _ _ _ rfl rfl HR4.out ?_) | fail)
      refine CP.out.mono ?_
      rintro e w5 ⟨rfl, rfl⟩
      clear HR4 CP q0 p0 p1 p2 p3
      go_upto_block 2 with fail
      go_cut [12, 13, 14, 15, 16, 17] from 90 to 176 (fun v12 v13 v14 v15 v16 v17 wx => ∃ (cd : Nat) (dn' : Bool) (L' : List Pt), v12 = .int .i64 (cd : Nat) ∧ v13 = ErrV cd ∧ cd ≤ 10 ∧ Hid (Bo W wx [g, wr.heap.size] a m rm dn' L' dn' L' ∧ Same [g, wr.heap.size] w5 wx ∧ Inv rm L' ∧ L'.length ≤ k + 1))
      case first =>
        have hL1 : L.length ≤ 1000 := by omega
        have q1 : w5.cell? ⟨wr.heap.size, 1, none⟩ = some (.int .i64 d.n) := cell_of_block HE4.out
        have q2 : w5.cell? ⟨wr.heap.size, 2, none⟩ = some (.int .i64 d.z) := cell_of_block HE4.out
        have q3 : w5.cell? ⟨wr.heap.size, 3, none⟩ = some (.slice B d.b.length cb) := cell_of_block HE4.out
        have hp := pickN_lt d.t
        have hN : wr.heap.size ∈ [g, wr.heap.size] := by simp
        have hown : RdS w5 (some ⟨g, 0, none⟩) cp d.b := by
          obtain ⟨A9, c9, e9, r9⟩ := HO4.out.rd
          cases e9
          exact r9
        have HW := Lib.hid hown
        clear hown
        rcases (by omega : pickN d.t = 0 ∨ pickN d.t = 1 ∨ pickN d.t = 2 ∨ pickN d.t = 3 ∨ pickN d.t = 4 ∨ pickN d.t = 5 ∨ pickN d.t = 6 ∨ pickN d.t = 7) with e | e | e | e | e | e | e | e <;> rw [e] <;> clear e hp
        · have C1 := Lib.hid (HB4.out.appendP d.n HW.out HI.out hL1 fn1 (by omega))
          go_wp2_with fail
          refine C1.out.mono ?_
          rintro e w6 ⟨rfl, b6, s6⟩
          have r1 : w6.cell? ⟨wr.heap.size, 1, none⟩ = some (.int .i64 d.n) := cell_of_block ((s6 _ hN).trans HE4.out)
          have r3 : w6.cell? ⟨wr.heap.size, 3, none⟩ = some (.slice B d.b.length cb) := cell_of_block ((s6 _ hN).trans HE4.out)
          have cvb := rd_conv (HBS.out.below b6.below (Nat.le_refl _))
          have C2 := Lib.hid (b6.appendR d.n d.b HI.out hL1 fn1 (by omega))
          have S6 := Lib.hid s6
          clear b6 s6 C1
          go_wp2_with fail
          refine C2.out.mono ?_
          rintro e w7 ⟨rfl, b7, s7⟩
          have FIN := Lib.hid (And.intro b7 (And.intro (S6.out.trans s7) (And.intro (append_inv (dn := dn) (n := d.n) (bs := d.b) HI.out fn1) (append_len rm dn L d.n d.b))))
          have hc := append_code rm dn L d.n d.b
          clear b7 s7 C2
          generalize opAppend rm dn L d.n d.b = r at FIN hc ⊢
          obtain ⟨cd, L'⟩ := r
          go_wp2_with fail
          go_meet
          exact ⟨cd, dn, L', rfl, rfl, hc, Lib.hid ⟨FIN.out.1, FIN.out.2.1, FIN.out.2.2.1, Nat.le_trans FIN.out.2.2.2 (by omega)⟩⟩
        · have C1 := Lib.hid (HB4.out.appendP d.n HW.out HI.out hL1 fn1 (by omega))
          go_wp2_with fail
          refine C1.out.mono ?_
          rintro e w6 ⟨rfl, b6, s6⟩
          have r1 : w6.cell? ⟨wr.heap.size, 1, none⟩ = some (.int .i64 d.n) := cell_of_block ((s6 _ hN).trans HE4.out)
          have r3 : w6.cell? ⟨wr.heap.size, 3, none⟩ = some (.slice B d.b.length cb) := cell_of_block ((s6 _ hN).trans HE4.out)
          have cvb := rd_conv (HBS.out.below b6.below (Nat.le_refl _))
          have C2 := Lib.hid (b6.appendR d.n d.b HI.out hL1 fn1 (by omega))
          have S6 := Lib.hid s6
          clear b6 s6 C1
          go_wp2_with fail
          refine C2.out.mono ?_
          rintro e w7 ⟨rfl, b7, s7⟩
          have FIN := Lib.hid (And.intro b7 (And.intro (S6.out.trans s7) (And.intro (append_inv (dn := dn) (n := d.n) (bs := d.b) HI.out fn1) (append_len rm dn L d.n d.b))))
          have hc := append_code rm dn L d.n d.b
          clear b7 s7 C2
          generalize opAppend rm dn L d.n d.b = r at FIN hc ⊢
          obtain ⟨cd, L'⟩ := r
          go_wp2_with fail
          go_meet
          exact ⟨cd, dn, L', rfl, rfl, hc, Lib.hid ⟨FIN.out.1, FIN.out.2.1, FIN.out.2.2.1, Nat.le_trans FIN.out.2.2.2 (by omega)⟩⟩
        · have C1 := Lib.hid (HB4.out.syncP d.n HI.out hL1 fn0 fn1)
          go_wp2_with fail
          refine C1.out.mono ?_
          rintro e w6 ⟨rfl, b6, s6⟩
          have r1 : w6.cell? ⟨wr.heap.size, 1, none⟩ = some (.int .i64 d.n) := cell_of_block ((s6 _ hN).trans HE4.out)
          have C2 := Lib.hid (b6.syncR d.n HI.out hL1)
          have S6 := Lib.hid s6
          clear b6 s6 C1
          go_wp2_with fail
          refine C2.out.mono ?_
          rintro e w7 ⟨rfl, b7, s7⟩
          have FIN := Lib.hid (And.intro b7 (And.intro (S6.out.trans s7) (And.intro (sync_inv (dn := dn) (n := d.n) HI.out) (Nat.le_of_eq (sync_len (dn := dn) (n := d.n) HI.out)))))
          have hc := sync_code dn L d.n
          clear b7 s7 C2
          generalize opSync dn L d.n = r at FIN hc ⊢
          obtain ⟨cd, L'⟩ := r
          go_wp2_with fail
          go_meet
          exact ⟨cd, dn, L', rfl, rfl, hc, Lib.hid ⟨FIN.out.1, FIN.out.2.1, FIN.out.2.2.1, Nat.le_trans FIN.out.2.2.2 (by omega)⟩⟩
        · have C1 := Lib.hid (HB4.out.cutP d.n d.z HI.out hL1 fn0 fn1)
          go_wp2_with fail
          refine C1.out.mono ?_
          rintro e w6 ⟨rfl, b6, s6⟩
          have r1 : w6.cell? ⟨wr.heap.size, 1, none⟩ = some (.int .i64 d.n) := cell_of_block ((s6 _ hN).trans HE4.out)
          have r2 : w6.cell? ⟨wr.heap.size, 2, none⟩ = some (.int .i64 d.z) := cell_of_block ((s6 _ hN).trans HE4.out)
          have C2 := Lib.hid (b6.cutR d.n d.z HI.out hL1)
          have S6 := Lib.hid s6
          clear b6 s6 C1
          go_wp2_with fail
          refine C2.out.mono ?_
          rintro e w7 ⟨rfl, b7, s7⟩
          have FIN := Lib.hid (And.intro b7 (And.intro (S6.out.trans s7) (And.intro (cut_inv (dn := dn) (n := d.n) (m := d.z) HI.out) (Nat.le_of_eq (cut_len (dn := dn) (n := d.n) (m := d.z) HI.out)))))
          have hc := cut_code dn L d.n d.z
          clear b7 s7 C2
          generalize opCut dn L d.n d.z = r at FIN hc ⊢
          obtain ⟨cd, L'⟩ := r
          go_wp2_with fail
          go_meet
          exact ⟨cd, dn, L', rfl, rfl, hc, Lib.hid ⟨FIN.out.1, FIN.out.2.1, FIN.out.2.2.1, Nat.le_trans FIN.out.2.2.2 (by omega)⟩⟩
        · have C1 := Lib.hid (HB4.out.removeP d.n HI.out hL1 fn0 fn1)
          go_wp2_with fail
          refine C1.out.mono ?_
          rintro e w6 ⟨rfl, b6, s6⟩
          have r1 : w6.cell? ⟨wr.heap.size, 1, none⟩ = some (.int .i64 d.n) := cell_of_block ((s6 _ hN).trans HE4.out)
          have C2 := Lib.hid (b6.removeR d.n HI.out hL1)
          have S6 := Lib.hid s6
          clear b6 s6 C1
          go_wp2_with fail
          refine C2.out.mono ?_
          rintro e w7 ⟨rfl, b7, s7⟩
          have FIN := Lib.hid (And.intro b7 (And.intro (S6.out.trans s7) (And.intro (remove_inv (dn := dn) (n := d.n) HI.out) (remove_len dn L d.n))))
          have hc := remove_code dn L d.n
          clear b7 s7 C2
          generalize opRemove dn L d.n = r at FIN hc ⊢
          obtain ⟨cd, L'⟩ := r
          go_wp2_with fail
          go_meet
          exact ⟨cd, dn, L', rfl, rfl, hc, Lib.hid ⟨FIN.out.1, FIN.out.2.1, FIN.out.2.2.1, Nat.le_trans FIN.out.2.2.2 (by omega)⟩⟩
        · have C1 := HB4.out.readP d.n HI.out fn0 fn1
          have hrl := read_len HI.out dn d.n
          have hc := read_code dn L d.n
          have CR := fun w6 (b6 : Bo W w6 [g, wr.heap.size] a m rm dn L dn L) => b6.readR d.n HI.out hL1
          unfold RefReads at CR
          generalize opRead dn L d.n = r at C1 CR hrl hc
          obtain ⟨cd, rb⟩ := r
          have hrl : rb.length ≤ 65536 := hrl
          have hc : cd ≤ 10 := hc
          have C1 := Lib.hid C1
          have CR := Lib.hid CR
          go_wp2_with fail
          refine C1.out.mono ?_
          rintro e w6 ⟨AR, cR, rfl, r6, b6, s6⟩
          have r1 : w6.cell? ⟨wr.heap.size, 1, none⟩ = some (.int .i64 d.n) := cell_of_block ((s6 _ hN).trans HE4.out)
          have cvr := rd_conv r6
          have C2 := Lib.hid (CR.out w6 b6)
          have FIN := Lib.hid (And.intro b6 s6)
          clear b6 s6 C1 CR r6
          go_wp2_with fail
          refine C2.out.mono ?_
          rintro e w7 ⟨rfl, rfl⟩
          clear C2
          go_wp2_with fail
          go_meet
          exact ⟨cd, dn, L, rfl, rfl, hc, Lib.hid ⟨FIN.out.1, FIN.out.2, HI.out, by omega⟩⟩
        · have C1 := Lib.hid (HB4.out.crashP d.z HI.out hL1 fz1)
          go_wp2_with fail
          refine C1.out.mono ?_
          rintro e w6 ⟨rfl, b6, s6⟩
          have r2 : w6.cell? ⟨wr.heap.size, 2, none⟩ = some (.int .i64 d.z) := cell_of_block ((s6 _ hN).trans HE4.out)
          have C2 := Lib.hid (b6.crashR d.z HI.out hL1 fz1)
          have S6 := Lib.hid s6
          clear b6 s6 C1
          go_wp2_with fail
          refine C2.out.mono ?_
          rintro e w7 ⟨rfl, b7, s7⟩
          have FIN := Lib.hid (And.intro b7 (S6.out.trans s7))
          clear b7 s7 C2
          go_wp2_with fail
          go_meet
          exact ⟨0, true, opCrash dn L d.z, rfl, rfl, by omega, Lib.hid ⟨FIN.out.1, FIN.out.2, crash_inv HI.out, by rw [opCrash_len]; omega⟩⟩
        · have C1 := Lib.hid HB4.out.upP
          go_wp2_with fail
          refine C1.out.mono ?_
          rintro e w6 ⟨rfl, b6, s6⟩
          obtain ⟨b7, s7⟩ := b6.upR
          obtain ⟨AR, cR, hR⟩ := b6.ref
          have m2 := hR.c2
          have mf := hR.f 2
          have FIN := Lib.hid (And.intro b7 (s6.trans s7))
          clear b6 s6 b7 s7 C1 hR
          go_wp2_with fail
          go_meet
          exact ⟨0, false, L, rfl, rfl, by omega, Lib.hid ⟨FIN.out.1, FIN.out.2, HI.out, by omega⟩⟩
      case rest =>
        obtain ⟨cd, dn', L', rfl, rfl, hcd, HD⟩ := hcut
        have HU : Hid (OwnU wc g d.b.length cp) := Lib.hid (own_same HO4.out (HD.out.2.1 g (by simp)))
        have HB5 := Lib.hid HD.out.1
        have HI5 := Lib.hid HD.out.2.2.1
        have hL5 := HD.out.2.2.2
        clear HD HO4 HB4 HE4 HBS HBo HI hL
        go_wp2_with fail
        go_loopg [18] (d.b.length) (fun g8 s18 wx => ∃ (j : Nat), j + g8 = d.b.length ∧ s18 = .int .i64 j ∧ Hid (Bo W wx [g, wr.heap.size] a m rm dn' L' dn' L' ∧ OwnU wx g d.b.length cp))
        case atStart => exact ⟨0, by omega, rfl, Lib.hid ⟨HB5.out, HU.out⟩⟩
        case round =>
          clear HB5 HU
          obtain ⟨j, hj, rfl, HQ⟩ := hrel
          cases gk with
          | succ gk2 =>
            have y1 : decide ((j : Int) < (d.b.length : Int)) = true := decide_eq_true (by omega)
            have hjl : j < d.b.length := by omega
            obtain ⟨zs, hzl, hown⟩ := HQ.out.2
            obtain ⟨z, hz⟩ : ∃ z, zs[j]? = some z := ⟨zs[j]'(by omega), List.getElem?_eq_getElem _⟩
            have k1 := ownU_cell hown hz
            have k2 := World.ownsRow.frozenAt hown j
            have HO := Lib.hid hown
            have HZ := Lib.hid hzl
            have HQ1 := Lib.hid HQ.out.1
            clear hown hzl hz HQ
            go_wp2_with fail
            go_roundg gk2
            case rel => exact ⟨j + 1, by omega, by go_num, Lib.hid ⟨HQ1.out.set ⟨g, j, none⟩ _ (by simp), ownU_set HZ.out HO.out j _⟩⟩
            case measure => omega
          | zero =>
            have y1 : decide ((j : Int) < (d.b.length : Int)) = false := decide_eq_false (by omega)
            have HB6 := Lib.hid HQ.out.1
            have CC := Lib.hid (fun w => code_walk w cd hcd)
            have CP := Lib.hid HB6.out.usedP
            have CR := Lib.hid (HB6.out.usedR HI5.out (by omega))
            have CT := Lib.hid (HB6.out.parts HI5.out.rise (by omega))
            have z1 : ((cd : Int) == (cd : Int)) = true := by simp
            clear HQ
            go_wp2_with fail
            refine (CC.out _).mono ?_
            rintro e w7 ⟨rfl, rfl⟩
            go_wp2_with fail
            refine CP.out.mono ?_
            rintro e w8 ⟨rfl, rfl⟩
            go_wp2_with fail
            refine CR.out.mono ?_
            rintro e w9 ⟨rfl, rfl⟩
            go_wp2_with fail
            refine CT.out.mono ?_
            rintro e w10 ⟨vp, rfl, op, b10, s10⟩
            clear CC CP CR CT
            obtain ⟨AP, cP, rfl, hAP⟩ := oi_shape op
            rw [nums_length] at op ⊢
            obtain ⟨A9, c9, hR⟩ := b10.ref
            have m1 := hR.c1
            have HR := Lib.hid hR
            have HOP := Lib.hid op
            have HAP := Lib.hid hAP
            have HBT := Lib.hid b10
            clear hR op hAP b10 s10 HB6
            go_wp2_with fail
            go_loopg [20] (L'.length) (fun g9 s20 wx => ∃ (j : Nat), j + g9 = L'.length ∧ s20 = .int .i64 j ∧ Hid (∃ q, wx = w10.drewN q))
            case atStart => exact ⟨0, by omega, rfl, Lib.hid ⟨0, rfl⟩⟩
            case round =>
              obtain ⟨j, hj, rfl, HW⟩ := hrel
              obtain ⟨q, rfl⟩ := HW.out
              have m1U : (w10.drewN q).cell? ⟨m, 1, none⟩ = some (.slice A9 L'.length c9) := m1
              cases gk with
              | zero =>
                have z2 : decide ((j : Int) < (L'.length : Int)) = false := decide_eq_false (by omega)
                have AT : Hid (At8 W (w10.drewN q) a m rm (k + 1)) := Lib.hid ⟨dn', L', HBT.out.less.drewN q, HI5.out, hL5⟩
                clear m1U HW
                go_wp2_with fail
                go_roundg gk
                case rel => exact ⟨k + 1, by omega, by go_num, AT⟩
                case measure => omega
              | succ gk3 =>
                have z2 : decide ((j : Int) < (L'.length : Int)) = true := decide_eq_true (by omega)
                have hjl : j < L'.length := by omega
                obtain ⟨p, hp⟩ : ∃ p, L'[j]? = some p := ⟨L'[j], List.getElem?_eq_getElem hjl⟩
                obtain ⟨gA, rfl, d0, _, _, _⟩ := HR.out.idx hp
                have hnp : (nums L')[j]? = some p.n := by unfold nums; rw [List.getElem?_map, hp]; rfl
                obtain ⟨gP, rfl⟩ := HAP.out j p.n hnp
                have d1 := oi_cell HOP.out hnp
                have d0U : (w10.drewN q).cell? ⟨gA, j * 3, none⟩ = some (.int .i64 p.n) := d0
                have d1U : (w10.drewN q).cell? ⟨gP, j, none⟩ = some (.int .i64 p.n) := d1
                have z3 : (p.n == p.n) = true := by simp
                clear hp hnp d0 d1 HW
                generalize hV : w10.drewN q = V at d0U d1U m1U ⊢
                have HV := Lib.hid hV
                clear hV
                go_wp2_with fail
                go_quiet (fail)
                all_goals go_wp2_with fail
                all_goals go_roundg gk3
                case rel => exact ⟨j + 1, by omega, by go_num, Lib.hid ⟨q + nq, by rw [← HV.out]; exact drew_drew _ _ _⟩⟩
                case measure => omega
end Go.Proofs.Ytodleafebjkdmaa
