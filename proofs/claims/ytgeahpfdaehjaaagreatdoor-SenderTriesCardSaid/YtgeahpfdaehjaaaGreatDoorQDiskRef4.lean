/-
  The document's disk, on: Append.
-/
import Derived.Test.YtgeahpfdaehjaaaGreatDoorQDiskRef2
namespace Go.Proofs.YtgeahpfdaehjaaaGreatDoor
open Go.ChangeShapes Go.WideShapes Go.ChangeAt Go.RowKit
set_option linter.unusedVariables false

theorem below_drewN8 {B : Nat} {a w : World} (h : Below B a w) (n : Nat) : Below B a (w.drewN n) := ⟨h.os, h.tape, h.output, h.size, h.block⟩
theorem ba_cat (a b : List UInt8) : (⟨a.toArray⟩ : ByteArray) ++ ⟨b.toArray⟩ = ⟨(a ++ b).toArray⟩ := by
  apply ByteArray.ext
  rw [ByteArray.data_append]
  simp
theorem size_cat (b : List UInt8) : (⟨b.toArray⟩ : ByteArray).size = b.length := by simp [ByteArray.size]
theorem refAppend_gone (w : World) (m rm n' : Nat) (A : Option Addr) (cap : Nat) (L : List Pt) (n : Int) (s : ByteArray) (h : RfB w m rm true A cap L) :
    Calls Tryz.prog 63 #[.pointer (some ⟨m, 0, none⟩), .int .i64 n, .string s] w fun e w' => e = .returned (.int .i64 10) ∧ w' = w := by
  have c2 := h.c2
  clear h
  go_enter Tryz.func63, Tryz.ntmps63
  go_wp2_with fail
  go_ret
  exact ⟨rfl, rfl⟩
theorem refAppend_arg (w : World) (m rm n' : Nat) (A : Option Addr) (cap : Nat) (L : List Pt) (n : Int) (s : ByteArray) (h : RfB w m rm false A cap L) (hn : n < 0) :
    Calls Tryz.prog 63 #[.pointer (some ⟨m, 0, none⟩), .int .i64 n, .string s] w fun e w' => e = .returned (.int .i64 1) ∧ w' = w := by
  have c2 := h.c2
  clear h
  go_enter Tryz.func63, Tryz.ntmps63
  go_wp2_with fail
  go_ret
  exact ⟨rfl, rfl⟩
set_option maxRecDepth 100000 in
theorem refAppend_full (w : World) (m rm us : Nat) (A : Option Addr) (cap : Nat) (L : List Pt) (n : Int) (bs : List UInt8) (h : RfB w m rm false A cap L) (hl : L.length ≤ 1000) (hU : Hid (used L = us)) (hn : 0 ≤ n) (hu : us ≤ rm) (hr : rm ≤ 65536) (hb : bs.length ≤ 1000000) (hf : rm - us < bs.length) :
    Calls Tryz.prog 63 #[.pointer (some ⟨m, 0, none⟩), .int .i64 n, .string ⟨bs.toArray⟩] w fun e w' => e = .returned (.int .i64 6) ∧ Below w.heap.size w w' := by
  have c0 := h.c0
  have c2 := h.c2
  have hn' : ¬ n < 0 := by omega
  have CU : Hid (∀ k, Calls Tryz.prog 87 #[.pointer (some ⟨m, 0, none⟩)] (w.drewN k) fun e w' => e = .returned (.int .i64 (us : Nat)) ∧ w' = w.drewN k) := Lib.hid (fun k => by
    have := refUsed (w.drewN k) m rm false A cap L (h.drewN k) hl (by rw [hU.out]; omega)
    rw [hU.out] at this
    exact this)
  have hd : decide ((rm : Int) - us < bs.length) = true := decide_eq_true (by omega)
  clear h
  go_enter Tryz.func63, Tryz.ntmps63
  go_wp2_with fail
  go_quiet ((go_at_call 87; exact Calls.quiet_of_same (CU.out _)))
  all_goals go_wp2_with fail
  all_goals go_ret
  exact ⟨rfl, below_drewN8 (Below.refl _ _) _⟩

set_option maxRecDepth 100000 in
set_option maxHeartbeats 2000000 in
theorem refAppend_has (w : World) (G : Nat → Prop) (m rm us : Nat) (A : Option Addr) (cap : Nat) (x y : List Pt) (q : Pt) (n : Int) (bs : List UInt8) (h : RfB w m rm false A cap (x ++ q :: y)) (hG : ∀ g, G g ↔ footR m A g) (hl : (x ++ q :: y).length ≤ 1000) (hU : Hid (used (x ++ q :: y) = us)) (hn : 0 ≤ n) (hu : us ≤ rm) (hr : rm ≤ 65536) (hf : bs.length ≤ rm - us)
    (hq : q.n = n) (hx : ∀ p ∈ x, p.n < n) :
    Calls Tryz.prog 63 #[.pointer (some ⟨m, 0, none⟩), .int .i64 n, .string ⟨bs.toArray⟩] w (RefOps w G m rm false (0, x ++ ⟨q.n, q.b ++ bs, q.s⟩ :: y)) := by
  have c0 := h.c0
  have c2 := h.c2
  have c1 := h.c1
  have lm := h.lt
  have hn' : ¬ n < 0 := by omega
  have hql : q.b.length ≤ us := by rw [← hU.out]; exact used_mem (by simp)
  have CU : Hid (∀ k, Calls Tryz.prog 87 #[.pointer (some ⟨m, 0, none⟩)] (w.drewN k) fun e w' => e = .returned (.int .i64 (us : Nat)) ∧ w' = w.drewN k) := Lib.hid (fun k => by
    have := refUsed (w.drewN k) m rm false A cap _ (h.drewN k) hl (by rw [hU.out]; omega)
    rw [hU.out] at this
    exact this)
  have CA : Hid (∀ k, Calls Tryz.prog 88 #[.pointer (some ⟨m, 0, none⟩), .int .i64 n] (w.drewN k) fun e w' => e = .returned (.int .i64 (x.length : Nat)) ∧ w' = w.drewN k) := Lib.hid (fun k => refAt_has (w.drewN k) m rm false A cap _ n x.length q (h.drewN k) hl (by simp) hq (fun j p hj hp => by
        have := hx p (by
          rw [List.getElem?_append_left hj] at hp
          exact List.mem_of_getElem? hp)
        omega))
  have hd : decide ((rm : Int) - us < bs.length) = false := decide_eq_false (by omega)
  have hxl : x.length < (x ++ q :: y).length := by simp
  obtain ⟨g, rfl, _, d1, _, df⟩ := h.at
  have f1 := df (x.length * 3 + 1)
  have HD := Lib.hid h
  have HG := Lib.hid hG
  obtain ⟨N, hN⟩ : ∃ N, (x ++ q :: y).length = N := ⟨_, rfl⟩
  rw [hN] at c1 hxl hl
  obtain ⟨cb, hcb⟩ : ∃ cb, q.b ++ bs = cb := ⟨_, rfl⟩
  have HCB := Lib.hid hcb
  have ecat : (⟨q.b.toArray⟩ : ByteArray) ++ ⟨bs.toArray⟩ = ⟨cb.toArray⟩ := by rw [← hcb]; exact ba_cat _ _
  rw [hcb]
  clear h hG df hN hx hcb
  go_enter Tryz.func63, Tryz.ntmps63
  go_wp2_with fail
  go_quiet ((go_at_call 87; exact Calls.quiet_of_same (CU.out _)))
  all_goals go_wp2_with fail
  refine (CA.out _).mono ?_
  rintro e w' ⟨rfl, rfl⟩
  have HD1 := Lib.hid (HD.out.drewN nq)
  have HK1 := Lib.hid ((Keeps.refl (footR m (some ⟨g, 0, none⟩)) w).drewN nq)
  have d1U : (w.drewN nq).cell? ⟨g, x.length * 3 + 1, none⟩ = some (.string ⟨q.b.toArray⟩) := d1
  have c1U : (w.drewN nq).cell? ⟨m, 1, none⟩ = some (.slice (some ⟨g, 0, none⟩) N cap) := c1
  have f1U : (w.drewN nq).frozen? ⟨g, x.length * 3 + 1, none⟩ = false := f1
  clear d1 c1 f1 c0 c2 CU CA hd HD
  generalize w.drewN nq = U at HD1 HK1 d1U c1U f1U ⊢
  go_wp2_with fail
  go_region
  all_goals go_wp2_with fail
  all_goals go_ret
  have D2 := (HD1.out.put (j := 1) (u := .string ⟨cb.toArray⟩) (q := ⟨q.n, cb, q.s⟩) (by omega) rfl).drew
  exact ⟨rfl, G, ⟨some ⟨g, 0, none⟩, cap, D2, HG.out⟩, Mv8.put HG.out ((HK1.out.set ⟨g, x.length * 3 + 1, none⟩ (.string ⟨cb.toArray⟩) (.inl (.inr ⟨_, rfl, rfl⟩))).drew)⟩

theorem srcP_one (w : World) (p : Pt) : SrcP (w.alloc (.cells #[.int .i64 p.n, .string ⟨p.b.toArray⟩, .int .i64 (p.s : Nat)] 132)) (some ⟨w.heap.size, 0, none⟩) 1 [p] := by
  refine ⟨Nat.le_refl _, fun e => (by cases e), ?_⟩
  intro ad ha j u hu
  cases ha
  rw [Addr.add_lit, Nat.zero_add, cell_of_block (heap_alloc_new w _)]
  have e : partCells [p] = partOf p := by rw [partCells_cons]; rfl
  rw [e] at hu
  match j, hu with
  | 0, hu => cases hu; rfl
  | 1, hu => cases hu; rfl
  | 2, hu => cases hu; rfl
set_option maxRecDepth 100000 in
set_option maxHeartbeats 1000000 in
theorem refAppend_new (w : World) (G : Nat → Prop) (m rm us : Nat) (A : Option Addr) (cap : Nat) (x y : List Pt) (n : Int) (bs : List UInt8) (h : RfB w m rm false A cap (x ++ y)) (hG : ∀ g, G g ↔ footR m A g) (hl : (x ++ y).length ≤ 1000) (hU : Hid (used (x ++ y) = us)) (hn : 0 ≤ n) (hn1 : n ≤ 9223372036854775807) (hu : us ≤ rm) (hr : rm ≤ 65536) (hf : bs.length ≤ rm - us)
    (hx : ∀ p ∈ x, p.n < n) (hy : ∀ p ∈ y, n < p.n) :
    Calls Tryz.prog 63 #[.pointer (some ⟨m, 0, none⟩), .int .i64 n, .string ⟨bs.toArray⟩] w (RefOps w G m rm false (0, x ++ ⟨n, bs, 0⟩ :: y)) := by
  have c0 := h.c0
  have c2 := h.c2
  have hn' : ¬ n < 0 := by omega
  have CU : Hid (∀ k, Calls Tryz.prog 87 #[.pointer (some ⟨m, 0, none⟩)] (w.drewN k) fun e w' => e = .returned (.int .i64 (us : Nat)) ∧ w' = w.drewN k) := Lib.hid (fun k => by
    have := refUsed (w.drewN k) m rm false A cap _ (h.drewN k) hl (by rw [hU.out]; omega)
    rw [hU.out] at this
    exact this)
  have CA : Hid (∀ k, Calls Tryz.prog 88 #[.pointer (some ⟨m, 0, none⟩), .int .i64 n] (w.drewN k) fun e w' => e = .returned (.int .i64 (-1)) ∧ w' = w.drewN k) := Lib.hid (fun k => refAt_no (w.drewN k) m rm false A cap _ n (h.drewN k) hl (fun p hp => by
        rcases List.mem_append.1 hp with h1 | h1
        · have := hx p h1; omega
        · have := hy p h1; omega))
  have hd : decide ((rm : Int) - us < bs.length) = false := decide_eq_false (by omega)
  have HD := Lib.hid h
  have HG := Lib.hid hG
  have HX := Lib.hid hx
  have HY := Lib.hid hy
  have HLN := Lib.hid hl
  obtain ⟨N, hN⟩ : ∃ N, (x ++ y).length = N := ⟨_, rfl⟩
  have HN := Lib.hid hN
  have hxN : x.length ≤ N := by rw [← hN, List.length_append]; omega
  rw [hN] at hl
  clear h hG hx hy hN
  go_enter Tryz.func63, Tryz.ntmps63
  go_wp2_with fail
  go_quiet ((go_at_call 87; exact Calls.quiet_of_same (CU.out _)))
  all_goals go_wp2_with fail
  refine (CA.out _).mono ?_
  rintro e w' ⟨rfl, rfl⟩
  have hU1 := HD.out.drewN nq
  have HK1 := Lib.hid ((Keeps.refl G w).drewN nq)
  clear c0 c2 CU CA hd HD
  generalize w.drewN nq = U at hU1 HK1 ⊢
  have c1 := hU1.c1
  rw [HN.out] at c1
  have HD1 := Lib.hid hU1
  clear hU1
  go_wp2_with fail
  go_loop [7] (fun s => ∃ k : Nat, k ≤ x.length ∧ s = .int .i64 k) (fun s => x.length - (intOf s).toNat)
  case atStart => exact ⟨0, Nat.zero_le _, rfl⟩
  case round =>
    obtain ⟨k, hk, rfl⟩ := hrel
    rcases Nat.lt_or_ge k x.length with hlt | hge
    · have x1 : decide ((k : Int) < (N : Int)) = true := decide_eq_true (by omega)
      have hq : (x ++ y)[k]? = some x[k] := by rw [List.getElem?_append_left hlt, List.getElem?_eq_getElem hlt]
      have hqn := HX.out x[k] (List.getElem_mem hlt)
      generalize x[k] = q at hq hqn
      obtain ⟨g, rfl, d0, _, _, _⟩ := HD1.out.idx hq
      have x2 : decide (q.n < n) = true := decide_eq_true hqn
      have hkN : k < N := by omega
      clear hq
      go_wp2_with fail
      go_round
      case rel => exact ⟨k + 1, by omega, by go_num⟩
      case measure => simp [intOf]; omega
    · obtain rfl : k = x.length := by omega
      -- the new row
      have h := HD1.out
      obtain ⟨src, hoff⟩ := h.src
      have hle := src.le
      rw [HN.out] at hle
      have hxy : x.length + y.length = N := by rw [← HN.out, List.length_append]
      have sx : SrcP U A cap x := by have := src.take x.length; rw [List.take_left] at this; exact this
      have s1 := fun w => sliceP_to A N cap x.length (by omega) src.nn w
      obtain ⟨A', s2, hsy, hblk⟩ := sliceP_from A cap (x ++ y) x.length (by rw [HN.out]; omega) src.le src.nn
      rw [List.drop_left, HN.out] at s2
      have s2' : ∀ w, (Instr.slice 45 (.slice A N cap) (some (.int .i64 (x.length : Int))) none none).run Tryz.prog w = .ok (.slice A' y.length (cap - x.length)) w := s2
      rw [List.drop_left] at hsy
      have b0 : Below U.heap.size U (U.alloc (.cells #[] 132)) := (Below.refl U.heap.size U).alloc (Nat.le_refl _) _
      obtain ⟨v1, w1, R1, o1, g1, l1⟩ := ownP_app (ownP_made U) (sx.below b0) (by simp; omega) (by simp)
      rw [List.nil_append] at o1
      have v1lt : ∀ g, v1.ownBlock = some g → U.heap.size ≤ g := fun g hg => (World.ownsRow.lt o1 g hg).1
      have b1 : Below U.heap.size U w1 := b0.grown g1 b0.size (fun k hk => by cases hk; simp)
      have o1a : OwnP (w1.alloc (.cells #[.int .i64 n, .string ⟨#[]⟩, .int .i64 0] 132)) U.heap.size v1 x := World.ownsRow.alloc o1 _
      have b1a : Below U.heap.size U (w1.alloc (.cells #[.int .i64 n, .string ⟨#[]⟩, .int .i64 0] 132)) := b1.alloc b1.size _
      obtain ⟨v2, w2, R2, o2, g2, l2⟩ := ownP_app o1a (srcP_one w1 ⟨n, [], 0⟩) (by simp; omega) b1a.size
      have v2lt : ∀ g, v2.ownBlock = some g → U.heap.size ≤ g := fun g hg => (World.ownsRow.lt o2 g hg).1
      have b2 : Below U.heap.size U w2 := b1a.grown g2 b1a.size (fun k hk => v1lt k hk)
      obtain ⟨v3, w3, R3, o3, g3, l3⟩ := ownP_app o2 ((hsy U src).below b2) (by simp; omega) b2.size
      have b3 : Below U.heap.size U w3 := b2.grown g3 b2.size (fun k hk => v2lt k hk)
      rw [List.append_assoc, List.singleton_append] at o3
      obtain ⟨A3, cap3, ev3, _, _⟩ := o3.src
      subst ev3
      have k1 : w1.cell? ⟨m, 1, none⟩ = some (.slice A N cap) := by have := (h.below b1).c1; rw [HN.out] at this; exact this
      have k2 : w2.cell? ⟨m, 1, none⟩ = some (.slice A N cap) := by have := (h.below b2).c1; rw [HN.out] at this; exact this
      have k3 : w3.cell? ⟨m, 1, none⟩ = some (.slice A N cap) := by have := (h.below b3).c1; rw [HN.out] at this; exact this
      have f3 := (h.below b3).f 1
      have lm := h.lt
      have D4 := RfB.setL (h.below b3).blk (o3.mono (Nat.zero_le _))
      have K4 : Keeps G w (w3.setCell ⟨m, 1, none⟩ (.slice A3 (x ++ (⟨n, [], 0⟩ : Pt) :: y).length cap3)) := (HK1.out.trans (Keeps.of_below b3 (Nat.le_refl _) (fun _ => False)) (fun _ e => e.elim)).set _ _ (.inl ((HG.out m).2 (.inl rfl)))
      have hnew : ∀ ad, A3 = some ad → w.heap.size ≤ ad.block := fun ad ha => by
        subst ha
        have h1 := (World.ownsRow.lt o3 ad.block rfl).1
        have h2 := HK1.out.size
        omega
      have hM : (x ++ (⟨n, [], 0⟩ : Pt) :: y).length = N + 1 := by rw [List.length_append, List.length_cons, ← HN.out, List.length_append]; omega
      have c14 := D4.c1
      rw [hM] at c14 K4 R3
      have HD4 := Lib.hid D4
      rw [hM] at HD4
      have HK4 := Lib.hid K4
      clear D4 K4
      have HW := Lib.hid hnew
      have R1 := Lib.hid R1
      have R2 := Lib.hid R2
      have R3 := Lib.hid R3
      obtain ⟨g0, e0, _, p1, _, pf⟩ := HD4.out.at
      have HE0 := Lib.hid e0
      have pf1 := pf (x.length * 3 + 1)
      have hbl : bs.length ≤ 65536 := by omega
      clear h src hoff hle sx s2 hsy hblk b0 o1 g1 l1 v1lt b1 o1a b1a o2 g2 l2 v2lt b2 o3 g3 l3 b3 hM hnew e0 pf
      obtain ⟨ly, hly⟩ : ∃ ly, y.length = ly := ⟨_, rfl⟩
      rw [hly] at s2' R3
      have HLY := Lib.hid hly
      rcases Nat.lt_or_ge x.length N with hlt | hge
      · have x1 : decide ((x.length : Int) < (N : Int)) = true := decide_eq_true (by omega)
        obtain ⟨q, hq⟩ : ∃ q, (x ++ y)[x.length]? = some q := ⟨(x ++ y)[x.length]'(by rw [HN.out]; omega), List.getElem?_eq_getElem _⟩
        obtain ⟨g, hA, d0, _, _, _⟩ := HD1.out.idx hq
        have hqn : n < q.n := by
          rw [List.getElem?_append_right (Nat.le_refl _)] at hq
          exact HY.out q (List.mem_of_getElem? hq)
        have x2 : decide (q.n < n) = false := decide_eq_false (by omega)
        subst hA
        clear hq hqn hly
        go_wp2_with (first
          | (at_builtin; refine wpList_append_two rfl (.tmp 51) (.tmp 57) 45 45 rfl _ _ _ rfl rfl R1.out ?_)
          | (at_builtin; refine wpList_append_two rfl (.tmp 59) (.tmp 62) 45 45 rfl _ _ _ rfl rfl R2.out ?_)
          | (at_builtin; refine wpList_append_two rfl (.tmp 65) (.tmp 71) 45 45 rfl _ _ _ rfl rfl R3.out ?_)
          | fail)
        clear c1 k1 k2 k3 f3 s1 s2'
        generalize w3.setCell ⟨m, 1, none⟩ (.slice A3 (N + 1) cap3) = V at HD4 HK4 c14 p1 pf1 ⊢
        obtain rfl := HE0.out
        have hxN1 : x.length < N + 1 := by omega
        have ecat : (⟨#[]⟩ : ByteArray) ++ ⟨bs.toArray⟩ = ⟨bs.toArray⟩ := by have := ba_cat [] bs; rw [List.nil_append] at this; exact this
        go_wp2_with fail
        go_region
        all_goals go_wp2_with fail
        all_goals go_ret
        have D5 := (HD4.out.put (j := 1) (u := .string ⟨bs.toArray⟩) (q := ⟨n, bs, 0⟩) (by omega) rfl).drew
        have hg0 : w.heap.size ≤ g0 := HW.out ⟨g0, 0, none⟩ rfl
        refine ⟨rfl, footR m (some ⟨g0, 0, none⟩), ⟨some ⟨g0, 0, none⟩, cap3, D5, fun g => Iff.rfl⟩, (HK4.out.set ⟨g0, x.length * 3 + 1, none⟩ (.string ⟨bs.toArray⟩) (.inr hg0)).drew, fun g hg => ?_⟩
        rcases hg with e | ⟨ad, ha, e⟩
        · exact .inl ((HG.out g).2 (.inl e))
        · cases ha
          exact .inr (by rw [← e]; exact hg0)
      · have x1 : decide ((x.length : Int) < (N : Int)) = false := decide_eq_false (by omega)
        have x2 : decide (x.length < N) = false := decide_eq_false (by omega)
        clear hly
        go_wp2_with (first
          | (at_builtin; refine wpList_append_two rfl (.tmp 51) (.tmp 57) 45 45 rfl _ _ _ rfl rfl R1.out ?_)
          | (at_builtin; refine wpList_append_two rfl (.tmp 59) (.tmp 62) 45 45 rfl _ _ _ rfl rfl R2.out ?_)
          | (at_builtin; refine wpList_append_two rfl (.tmp 65) (.tmp 71) 45 45 rfl _ _ _ rfl rfl R3.out ?_)
          | fail)
        clear c1 k1 k2 k3 f3 s1 s2'
        generalize w3.setCell ⟨m, 1, none⟩ (.slice A3 (N + 1) cap3) = V at HD4 HK4 c14 p1 pf1 ⊢
        obtain rfl := HE0.out
        have hxN1 : x.length < N + 1 := by omega
        have ecat : (⟨#[]⟩ : ByteArray) ++ ⟨bs.toArray⟩ = ⟨bs.toArray⟩ := by have := ba_cat [] bs; rw [List.nil_append] at this; exact this
        go_wp2_with fail
        go_region
        all_goals go_wp2_with fail
        all_goals go_ret
        have D5 := (HD4.out.put (j := 1) (u := .string ⟨bs.toArray⟩) (q := ⟨n, bs, 0⟩) (by omega) rfl).drew
        have hg0 : w.heap.size ≤ g0 := HW.out ⟨g0, 0, none⟩ rfl
        refine ⟨rfl, footR m (some ⟨g0, 0, none⟩), ⟨some ⟨g0, 0, none⟩, cap3, D5, fun g => Iff.rfl⟩, (HK4.out.set ⟨g0, x.length * 3 + 1, none⟩ (.string ⟨bs.toArray⟩) (.inr hg0)).drew, fun g hg => ?_⟩
        rcases hg with e | ⟨ad, ha, e⟩
        · exact .inl ((HG.out g).2 (.inl e))
        · cases ha
          exact .inr (by rw [← e]; exact hg0)
/-- Append, whatever it is asked. -/
theorem refAppend (w : World) (G : Nat → Prop) (m rm : Nat) (dn : Bool) (L : List Pt) (n : Int) (bs : List UInt8) (h : Rfd w G m rm dn L) (hi : Inv rm L) (hl : L.length ≤ 1000) (hn : n ≤ 9223372036854775807) (hb : bs.length ≤ 1000000) :
    Calls Tryz.prog 63 #[.pointer (some ⟨m, 0, none⟩), .int .i64 n, .string ⟨bs.toArray⟩] w (RefOps w G m rm dn (opAppend rm dn L n bs)) := by
  unfold opAppend
  have HD := h
  obtain ⟨A, cap, hd, hG⟩ := h
  cases dn with
  | true =>
    refine (refAppend_gone w m rm 0 A cap L n _ hd).mono ?_
    rintro e w' ⟨rfl, rfl⟩
    exact ⟨rfl, G, HD, Mv8.still (Below.refl _ _)⟩
  | false =>
    rw [if_neg (by simp)]
    by_cases h0 : n < 0
    · rw [if_pos h0]
      refine (refAppend_arg w m rm 0 A cap L n _ hd h0).mono ?_
      rintro e w' ⟨rfl, rfl⟩
      exact ⟨rfl, G, HD, Mv8.still (Below.refl _ _)⟩
    rw [if_neg h0]
    have hu := hi.fits
    have hrm := hi.room
    by_cases hf : rm - used L < bs.length
    · rw [if_pos hf]
      refine (refAppend_full w m rm _ A cap L n bs hd hl (Lib.hid rfl) (by omega) hu hrm hb hf).mono ?_
      rintro e w' ⟨rfl, hbw⟩
      exact ⟨rfl, G, HD.below hbw, Mv8.still hbw⟩
    rw [if_neg hf]
    have hs := split n L hi.rise
    cases hs with
    | has x q y hq hx hy =>
      rw [upd_has hq hx]
      exact refAppend_has w G m rm _ A cap x y q n bs hd hG hl (Lib.hid rfl) (by omega) hu hrm (by omega) hq hx
    | no x y hx hy =>
      rw [upd_no hy hx]
      exact refAppend_new w G m rm _ A cap x y n bs hd hG hl (Lib.hid rfl) (by omega) hn hu hrm (by omega) hx hy
end Go.Proofs.YtgeahpfdaehjaaaGreatDoor
