/-
  Layer 7 (batch): May and what it calls: whether buckets, a row, rows, a batch may be.
-/
import Derived.Test.YtahmcelkfbigkaaDoorBatchKey
import Derived.Deep.RegionHeld3
namespace Go.Proofs.YtahmcelkfbigkaaDoor
open Go.ChangeShapes Go.WideShapes Go.ChangeAt Go.RowKit Go.Sort
set_option linter.unusedVariables false

theorem bk_other {r : Rw} (h : r.kind ≠ 3) : bkOk r = (r.bks.length == 0) := by unfold bkOk; rw [if_neg h]
theorem len_beq (n : Nat) : ((n : Int) == 0) = (n == 0) := by
  rw [Bool.eq_iff_iff, beq_iff_eq, beq_iff_eq]; omega
set_option maxHeartbeats 1000000 in
set_option maxRecDepth 100000 in
theorem mayBuckets (r : Rw) (B : Option Addr) (c : Nat) (w : World) (hn : RdN w B c r.bks) (hl : r.bks.length ≤ 4611686018427387904) :
    Calls Tryd.prog 44 #[rowVal r B c] w (BB (bkOk r) w) := by
  have B0 := Lib.hid (below_new w (rowObj r B c))
  have HN := Lib.hid (hn.alloc (rowObj r B c))
  clear hn
  unfold rowVal
  unfold rowObj at B0 HN
  by_cases h3 : r.kind = 3
  case neg =>
    have e1 : (r.kind != 3) = true := bne_iff_ne.2 h3
    have HE : Hid (bkOk r = ((r.bks.length : Int) == 0)) := Lib.hid (by rw [bk_other h3, len_beq])
    clear h3 HN
    go_enter Tryd.func44, Tryd.ntmps44
    go_wp2
    go_ret
    exact ⟨ret_bool HE.out.symm, B0.out⟩
  case pos =>
    have e1 : (r.kind != 3) = false := by rw [h3]; rfl
    rcases Nat.lt_or_ge r.bks.length 1 with h0 | h0
    · have HE : Hid (bkOk r = false) := Lib.hid (by unfold bkOk; rw [if_pos h3, decide_eq_false (by omega)]; rfl)
      have e2 : decide ((1 : Int) ≤ r.bks.length) = false := decide_eq_false (by omega)
      have e3 : decide (1 ≤ r.bks.length) = false := decide_eq_false (by omega)
      clear h3 HN
      go_enter Tryd.func44, Tryd.ntmps44
      go_wp2
      go_ret
      exact ⟨ret_bool HE.out.symm, B0.out⟩
    have e2 : decide ((1 : Int) ≤ r.bks.length) = true := decide_eq_true (by omega)
    rcases Nat.lt_or_ge 65 r.bks.length with h65 | h65
    · have HE : Hid (bkOk r = false) := Lib.hid (by unfold bkOk; rw [if_pos h3, decide_eq_false (p := r.bks.length ≤ 65) (by omega)]; simp)
      have e4 : decide ((r.bks.length : Int) ≤ 65) = false := decide_eq_false (by omega)
      clear h3 HN
      go_enter Tryd.func44, Tryd.ntmps44
      go_wp2
      go_ret
      exact ⟨ret_bool HE.out.symm, B0.out⟩
    · have e4 : decide ((r.bks.length : Int) ≤ 65) = true := decide_eq_true (by omega)
      obtain ⟨n, hni⟩ : ∃ n, r.bks[r.bks.length - 1]? = some n := ⟨_, List.getElem?_eq_getElem (by omega)⟩
      have HE : Hid (bkOk r = ((n : Int) != 0)) := Lib.hid (by
        unfold bkOk
        rw [if_pos h3, decide_eq_true h0, decide_eq_true h65, hni]
        simp only [Bool.and_self, Bool.true_and, Option.getD_some]
        rw [Bool.eq_iff_iff, bne_iff_ne, bne_iff_ne]; omega)
      obtain ⟨ad, rfl⟩ := HN.out.some_of (by omega)
      have hc := HN.out.rd ad rfl _ n hni
      obtain ⟨u, hu⟩ : ∃ u, r.bks.length - 1 = u := ⟨_, rfl⟩
      rw [hu] at hc
      have hz : IntKind.i64.wrap ((r.bks.length : Int) - 1) = (u : Int) := by rw [IntKind.wrap_i64]; omega
      have hz' : (r.bks.length : Int) - 1 = (u : Int) := by omega
      have l0 : (u : Int) < (r.bks.length : Int) := by omega
      clear h3 hni hu HN
      go_enter Tryd.func44, Tryd.ntmps44
      go_wp2
      go_ret
      exact ⟨ret_bool HE.out.symm, B0.out⟩

theorem lss_key (a b : ByteArray) : Op.bytesLess a.toList b.toList = decide (a.data.toList < b.data.toList) := by
  rw [bytesLess_eq, Lib.toList_data, Lib.toList_data]
theorem riseR_same {a b : Rw} (h : a.key = b.key) : riseR a b = decide (a.kind < b.kind) := by unfold riseR; rw [if_pos h]
theorem riseR_other {a b : Rw} (h : a.key ≠ b.key) : riseR a b = decide (a.key.data.toList < b.key.data.toList) := by unfold riseR; rw [if_neg h]
set_option maxHeartbeats 1000000 in
set_option maxRecDepth 100000 in
theorem batchRise (a b : Rw) (A B : Option Addr) (c d : Nat) (w : World) :
    Calls Tryd.prog 36 #[rowVal a A c, rowVal b B d] w (BB (riseR a b) w) := by
  have B0 := Lib.hid (show Below w.heap.size w ((w.alloc (rowObj a A c)).alloc (rowObj b B d)) from (below_new w _).alloc (by simp) _)
  unfold rowVal
  unfold rowObj at B0
  by_cases h : a.key = b.key
  · have e1 : (a.key.toList == b.key.toList) = true := beq_iff_eq.2 (by rw [h])
    have HE := Lib.hid (riseR_same h)
    clear h
    go_enter Tryd.func36, Tryd.ntmps36
    go_wp2
    go_ret
    exact ⟨ret_bool HE.out.symm, B0.out⟩
  · have e1 : (a.key.toList == b.key.toList) = false := beq_eq_false_iff_ne.2 (ba_ne h)
    have HE := Lib.hid (riseR_other h)
    have HK := Lib.hid (lss_key a.key b.key)
    clear h
    go_enter Tryd.func36, Tryd.ntmps36
    go_wp2
    go_ret
    exact ⟨ret_bool (by rw [HE.out, ← HK.out]), B0.out⟩

theorem rowOk_of {r : Rw} (h1 : 1 ≤ r.kind) (h2 : r.kind ≤ 3) (h3 : 1 ≤ r.many) (h4 : r.least ≤ r.most) : rowOk r = (bkOk r && keyOk r.key) := by
  unfold rowOk
  rw [decide_eq_true h1, decide_eq_true h2, decide_eq_true h3, decide_eq_true h4]
  simp
theorem rowOk_not {r : Rw} (h : ¬ (1 ≤ r.kind ∧ r.kind ≤ 3 ∧ 1 ≤ r.many ∧ r.least ≤ r.most ∧ bkOk r = true)) : rowOk r = false := by
  rw [Bool.eq_false_iff]
  intro e
  obtain ⟨h1, h2, h3, h4, h5, _⟩ := rowOk_parts e
  exact h ⟨h1, h2, h3, h4, h5⟩
set_option maxHeartbeats 2000000 in
set_option maxRecDepth 100000 in
theorem mayRow (r : Rw) (B : Option Addr) (c : Nat) (w : World) (hL : Laid w) (hn : RdN w B c r.bks) (hl : r.bks.length ≤ 4611686018427387904) (hs : r.key.size ≤ 9223372036854775807) :
    Calls Tryd.prog 35 #[rowVal r B c] w (BB (rowOk r) w) := by
  have B0 := Lib.hid (below_new w (rowObj r B c))
  have CB := Lib.hid (mayBuckets r B c (w.alloc (rowObj r B c)) (hn.alloc _) hl)
  have HL := Lib.hid hL
  have HR := Lib.hid (RowB.new w r B c)
  clear hn hL
  unfold rowVal at CB ⊢
  unfold rowObj at B0 CB HR
  by_cases h1 : 1 ≤ r.kind
  case neg =>
    have HE := Lib.hid (rowOk_not (r := r) (fun h => h1 h.1))
    have e1 : decide (r.kind < 1) = true := decide_eq_true (by omega)
    clear h1 CB
    go_enter Tryd.func35, Tryd.ntmps35
    go_wp2
    go_ret
    exact ⟨ret_bool HE.out.symm, B0.out⟩
  have e1 : decide (r.kind < 1) = false := decide_eq_false (by omega)
  by_cases h2 : r.kind ≤ 3
  case neg =>
    have HE := Lib.hid (rowOk_not (r := r) (fun h => h2 h.2.1))
    have e2 : decide (3 < r.kind) = true := decide_eq_true (by omega)
    clear h1 h2 CB
    go_enter Tryd.func35, Tryd.ntmps35
    go_wp2
    go_ret
    exact ⟨ret_bool HE.out.symm, B0.out⟩
  have e2 : decide (3 < r.kind) = false := decide_eq_false (by omega)
  by_cases h3 : 1 ≤ r.many
  case neg =>
    have HE := Lib.hid (rowOk_not (r := r) (fun h => h3 h.2.2.1))
    have e3 : decide ((r.many : Int) < 1) = true := decide_eq_true (by omega)
    have e3' : r.many < 1 := by omega
    clear h1 h2 h3 CB
    go_enter Tryd.func35, Tryd.ntmps35
    go_wp2
    go_ret
    exact ⟨ret_bool HE.out.symm, B0.out⟩
  have e3 : decide ((r.many : Int) < 1) = false := decide_eq_false (by omega)
  by_cases h4 : r.least ≤ r.most
  case neg =>
    have HE := Lib.hid (rowOk_not (r := r) (fun h => h4 h.2.2.2.1))
    have e4 : decide (r.most < r.least) = true := decide_eq_true (by omega)
    clear h1 h2 h3 h4 CB
    go_enter Tryd.func35, Tryd.ntmps35
    go_wp2
    go_ret
    exact ⟨ret_bool HE.out.symm, B0.out⟩
  have e4 : decide (r.most < r.least) = false := decide_eq_false (by omega)
  have HE0 := Lib.hid (rowOk_of h1 h2 h3 h4)
  clear h1 h2 h3 h4
  cases h5 : bkOk r with
  | false =>
    have HE := Lib.hid (show rowOk r = false by rw [HE0.out, h5, Bool.false_and])
    rw [h5] at CB
    clear h5 HE0
    go_enter Tryd.func35, Tryd.ntmps35
    go_wp2_with fail
    refine CB.out.mono ?_
    rintro e w1 ⟨rfl, hb⟩
    have B1 := Lib.hid (B0.out.trans (hb.mono (by simp)))
    clear hb CB
    go_wp2_with fail
    go_ret
    exact ⟨ret_bool HE.out.symm, B1.out⟩
  | true =>
    have HE := Lib.hid (show rowOk r = keyOk r.key by rw [HE0.out, h5, Bool.true_and])
    rw [h5] at CB
    clear h5 HE0
    go_enter Tryd.func35, Tryd.ntmps35
    go_wp2_with fail
    refine CB.out.mono ?_
    rintro e w1 ⟨rfl, hb⟩
    have B1 := Lib.hid (B0.out.trans (hb.mono (by simp)))
    have R1 := HR.out.below hb (Nat.le_refl _)
    have c0 := R1.c0
    have hL1 := HL.out.below B1.out
    clear hb CB R1 HR
    cases h6 : keyOk r.key with
    | false =>
      have C := Lib.hid (seriesOfBad r.key w1 hL1 hs h6)
      rw [h6] at HE
      clear h6 hL1
      go_wp2_with fail
      refine C.out.mono ?_
      rintro e w2 ⟨rfl, hb⟩
      have B2 := Lib.hid (B1.out.trans (hb.mono B1.out.size))
      unfold evZero evVal
      clear hb C
      go_wp2_with fail
      go_ret
      exact ⟨ret_bool HE.out.symm, B2.out.alloc B2.out.size _⟩
    | true =>
      have C := Lib.hid (seriesOfGood r.key w1 hL1 h6)
      rw [h6] at HE
      clear h6 hL1
      go_wp2_with fail
      refine C.out.mono ?_
      rintro e w2 ⟨n9, A9, l9, c9, rfl, hb⟩
      have B2 := Lib.hid (B1.out.trans (hb.mono B1.out.size))
      unfold evVal
      clear hb C
      go_wp2_with fail
      go_ret
      exact ⟨ret_bool HE.out.symm, B2.out.alloc B2.out.size _⟩
end Go.Proofs.YtahmcelkfbigkaaDoor
