/-
  Layer 15 (sample): the head of its laws: the document's example; are thresholds few?
-/
import Derived.Test.YtidpldnkpacobaaSampleKeep
namespace Go.Proofs.Ytidpldnkpacobaa
open Go.ChangeShapes Go.WideShapes Go.ChangeAt Go.RowKit Go.Deep
set_option linter.unusedVariables false

def upL : List (List Int) := [[0, 65536]]
def keyA : ByteArray := ⟨#[97]⟩
theorem keep_up1 : keepV upL 0 1 keyA = .tuple #[.bool false, .nilIface] := by
  rw [keepV_yes (by decide +kernel), show keptAt (thr upL 0 1) keyA = false by decide +kernel]
theorem keep_up2 : keepV upL 0 0 keyA = .tuple #[.bool true, .nilIface] := by
  rw [keepV_yes (by decide +kernel), show keptAt (thr upL 0 0) keyA = true by decide +kernel]
theorem keep_up3 : keepV upL 1 0 keyA = .tuple #[.bool false, .iface 31 (.int .i64 1)] := keepV_no (by decide +kernel)
theorem fit_up : FitM upL := fun l h => by
  unfold upL at h
  simp only [List.mem_singleton] at h
  subst h
  decide
def upW (w : World) : World := (w.alloc (.cells #[.int .i64 0, .int .i64 65536] 3)).alloc (.cells #[.slice (some ⟨w.heap.size, 0, none⟩) 2 2] 26)
theorem up_size (w : World) : (w.alloc (.cells #[.int .i64 0, .int .i64 65536] 3)).heap.size = w.heap.size + 1 := by simp
theorem up_below (w : World) : Below w.heap.size w (upW w) := ((Below.refl _ _).alloc (Nat.le_refl _) _).alloc (by rw [up_size]; omega) _
theorem up_rows (w : World) : RdM (upW w) (fun _ => False) (some ⟨w.heap.size + 1, 0, none⟩) upL := by
  have h1 : (upW w).heap[w.heap.size + 1]? = some (.cells #[.slice (some ⟨w.heap.size, 0, none⟩) 2 2] 26 (0, 0)) := by
    have := heap_alloc_new (w.alloc (.cells #[.int .i64 0, .int .i64 65536] 3)) (.cells #[.slice (some ⟨w.heap.size, 0, none⟩) 2 2] 26)
    rw [up_size] at this
    exact this
  have h0 : (upW w).heap[w.heap.size]? = some (.cells #[.int .i64 0, .int .i64 65536] 3 (0, 0)) := by
    have := heap_alloc_new w (.cells #[.int .i64 0, .int .i64 65536] 3)
    have b := (Below.refl (w.heap.size + 1) (w.alloc (.cells #[.int .i64 0, .int .i64 65536] 3))).alloc (by rw [up_size]; omega) (.cells #[.slice (some ⟨w.heap.size, 0, none⟩) 2 2] 26)
    unfold upW
    rw [b.block _ (by omega)]
    exact this
  refine .inr ⟨_, _, rfl, id, fun i l hi => ?_⟩
  match i, hi with
  | 0, hi =>
    cases hi
    refine ⟨some ⟨w.heap.size, 0, none⟩, 2, cell_of_block h1, Nat.le_refl _, (fun e => by cases e), fun ad ha _ => ?_⟩
    cases ha
    refine ⟨_, _, rfl, fun j z hz => ⟨?_, id⟩⟩
    match j, hz with
    | 0, hz => cases hz; rw [cell_of_block h0]; rfl
    | 1, hz => cases hz; rw [cell_of_block h0]; rfl
  | (i + 1), hi => cases hi
set_option maxRecDepth 100000 in
set_option maxHeartbeats 1000000 in
theorem up_sample (w : World) : Calls Try.prog 5 #[] w (Holds w) := by
  have CK := Lib.hid (fun (wx : World) (c v : Int) (hr : RdM wx (fun _ => False) (some ⟨w.heap.size + 1, 0, none⟩) upL) => keep_walk (cap := 1) hr (by decide) fit_up c v keyA (by decide +kernel))
  have R0 := Lib.hid (up_rows w)
  have B0 := Lib.hid (up_below w)
  have eqc := eql_codes
  have C1 := Lib.hid (CK.out _ 0 1 R0.out)
  rw [keep_up1, show upL.length = 1 from rfl] at C1
  unfold keyA at *
  unfold upW at *
  go_enter Try.func5, Try.ntmps5
  go_wp2_with fail
  refine C1.out.mono ?_
  rintro e w1 ⟨rfl, b1⟩
  have B1 := Lib.hid (B0.out.trans (b1.mono B0.out.size))
  have R1 := Lib.hid (R0.out.still b1)
  clear b1 C1 R0 B0
  have C2 := Lib.hid (CK.out _ 0 0 R1.out)
  rw [show keepV upL 0 0 ⟨#[97]⟩ = _ from keep_up2, show upL.length = 1 from rfl] at C2
  go_wp2_with fail
  refine C2.out.mono ?_
  rintro e w2 ⟨rfl, b2⟩
  have B2 := Lib.hid (B1.out.trans (b2.mono B1.out.size))
  have R2 := Lib.hid (R1.out.still b2)
  clear b2 C2 R1 B1
  have C3 := Lib.hid (CK.out _ 1 0 R2.out)
  rw [show keepV upL 1 0 ⟨#[97]⟩ = _ from keep_up3, show upL.length = 1 from rfl] at C3
  clear CK
  go_wp2_with fail
  refine C3.out.mono ?_
  rintro e w3 ⟨rfl, b3⟩
  have B3 := Lib.hid (B2.out.trans (b3.mono B2.out.size))
  clear b3 C3 R2 B2
  go_wp2_with fail
  go_ret
  exact ⟨rfl, B3.out⟩

def fewC (l : List Int) : Bool := decide (l.length ≤ 100)
def fewM (ls : List (List Int)) : Bool := ls.all fewC && decide (ls.length ≤ 20)
set_option maxRecDepth 100000 in
theorem few_walk {w : World} {E : Nat → Prop} {A : Option Addr} {ls : List (List Int)} (cap : Nat) (h : RdM w E A ls) (hl : ls.length ≤ 9223372036854775807) (hf : FitM ls) :
    Calls Try.prog 6 #[.slice A ls.length cap] w fun e w' => e = .returned (.bool (fewM ls)) ∧ w' = w := by
  have HR := Lib.hid h
  have HF := Lib.hid hf
  obtain ⟨N, hN⟩ : ∃ N, ls.length = N := ⟨_, rfl⟩
  have HN := Lib.hid hN
  rw [hN] at hl ⊢
  clear h hf hN
  go_enter Try.func6, Try.ntmps6
  go_wp2_with fail
  go_loopg [3] N (fun g s3 wx => ∃ i : Nat, i + g = N ∧ s3 = .int .i64 i ∧ Hid (AllG fewC ls i ∧ wx = w))
  case atStart => exact ⟨0, by omega, rfl, Lib.hid ⟨rfl, rfl⟩⟩
  case round =>
    obtain ⟨i, hi, rfl, HG⟩ := hrel
    obtain rfl := HG.out.2
    cases gk with
    | zero =>
      obtain rfl : i = N := by omega
      have HA := Lib.hid (HG.out.1.whole (by rw [HN.out]; exact Nat.le_refl _))
      go_wp2_with fail
      go_ret
      refine ⟨ret_bool ?_, rfl⟩
      unfold fewM
      rw [HA.out, HN.out]
      simp
      try omega
    | succ g =>
      have x1 : (i : Int) < N := by omega
      obtain ⟨l, hli⟩ := at_some (l := ls) (i := i) (by rw [HN.out]; omega)
      obtain ⟨b, o, B, c, rfl, _, c1, _⟩ := HR.out.at hli
      have hfl := HF.out l (List.mem_of_getElem? hli)
      have HI := Lib.hid hli
      obtain ⟨m, hm⟩ : ∃ m, l.length = m := ⟨_, rfl⟩
      have HM := Lib.hid hm
      rw [hm] at c1 hfl
      clear hli hm
      by_cases h : m ≤ 100
      · have HB : Hid (fewC l = true) := Lib.hid (decide_eq_true (by rw [HM.out]; exact h))
        have y1 : ¬ (100 : Int) < m := by omega
        go_wp2_with fail
        go_roundg g
        case rel => exact ⟨i + 1, by omega, by go_num, Lib.hid ⟨HG.out.1.next HI.out HB.out, rfl⟩⟩
        case measure => omega
      · have HB : Hid (fewC l = false) := Lib.hid (decide_eq_false (by rw [HM.out]; exact h))
        have y1 : (100 : Int) < m := by omega
        go_wp2_with fail
        go_ret
        refine ⟨ret_bool ?_, rfl⟩
        unfold fewM
        rw [allG_no HI.out HB.out]; rfl
end Go.Proofs.Ytidpldnkpacobaa
