/-
  Layer 20 (window): the law's deeds, a list of structs that is handed in.
  Layer 20 (window): are the law's deeds few, and short?
-/
import Derived.Test.YtedhciolnekpaaaGreatDoorGrpA
import Derived.Deep.Fields
import Derived.Deep.LoopGhost
namespace Go.Proofs.YtedhciolnekpaaaGreatDoor
open Go.ChangeShapes Go.WideShapes Go.ChangeAt Go.RowKit Go.Deep
set_option linter.unusedVariables false

/-- A deed. -/
structure DeedW where
  b : Bool
  mark : Int
  key : ByteArray
  kind : Int
  val : Int
  time : Int
def InW (x : Int) : Prop := -9223372036854775808 ≤ x ∧ x ≤ 9223372036854775807
structure FitW (t : DeedW) : Prop where
  mark : InW t.mark
  key : t.key.size ≤ maxLen
  kind : InW t.kind
  val : InW t.val
  time : InW t.time
def deedW (t : DeedW) : List Value := [.bool t.b, .int .i64 t.mark, .string t.key, .int .i64 t.kind, .int .i64 t.val, .int .i64 t.time]
/-- Deeds that were handed in. -/
def RdDW (w : World) (A : Option Addr) (l : List DeedW) : Prop := l = [] ∨ ∃ b o, A = some ⟨b, o, none⟩ ∧ ∀ (i : Nat) (t : DeedW), l[i]? = some t → ∀ j, j < 6 → w.cell? ⟨b, o + i * 6 + j, none⟩ = (deedW t)[j]?
theorem RdDW.at {w : World} {A : Option Addr} {l : List DeedW} (h : RdDW w A l) {i : Nat} {t : DeedW} (hi : l[i]? = some t) :
    ∃ b o, A = some ⟨b, o, none⟩ ∧ ∀ w', Below w.heap.size w w' → w'.cell? ⟨b, o + i * 6, none⟩ = some (.bool t.b) ∧ w'.cell? ⟨b, o + i * 6 + 1, none⟩ = some (.int .i64 t.mark) ∧ w'.cell? ⟨b, o + i * 6 + 2, none⟩ = some (.string t.key) ∧ w'.cell? ⟨b, o + i * 6 + 3, none⟩ = some (.int .i64 t.kind) ∧ w'.cell? ⟨b, o + i * 6 + 4, none⟩ = some (.int .i64 t.val) ∧ w'.cell? ⟨b, o + i * 6 + 5, none⟩ = some (.int .i64 t.time) := by
  rcases h with rfl | ⟨b, o, e, hc⟩
  · simp at hi
  · refine ⟨b, o, e, fun w' hb => ?_⟩
    have h0 : w.cell? ⟨b, o + i * 6, none⟩ = some (.bool t.b) := hc i t hi 0 (by omega)
    have h1 : w.cell? ⟨b, o + i * 6 + 1, none⟩ = some (.int .i64 t.mark) := hc i t hi 1 (by omega)
    have h2 : w.cell? ⟨b, o + i * 6 + 2, none⟩ = some (.string t.key) := hc i t hi 2 (by omega)
    have h3 : w.cell? ⟨b, o + i * 6 + 3, none⟩ = some (.int .i64 t.kind) := hc i t hi 3 (by omega)
    have h4 : w.cell? ⟨b, o + i * 6 + 4, none⟩ = some (.int .i64 t.val) := hc i t hi 4 (by omega)
    have h5 : w.cell? ⟨b, o + i * 6 + 5, none⟩ = some (.int .i64 t.time) := hc i t hi 5 (by omega)
    have hl := World.block_lt_of_cell? w _ h0
    exact ⟨by rw [hb.cell (p := ⟨b, o + i * 6, none⟩) hl]; exact h0, by rw [hb.cell (p := ⟨b, o + i * 6 + 1, none⟩) hl]; exact h1, by rw [hb.cell (p := ⟨b, o + i * 6 + 2, none⟩) hl]; exact h2, by rw [hb.cell (p := ⟨b, o + i * 6 + 3, none⟩) hl]; exact h3, by rw [hb.cell (p := ⟨b, o + i * 6 + 4, none⟩) hl]; exact h4, by rw [hb.cell (p := ⟨b, o + i * 6 + 5, none⟩) hl]; exact h5⟩
theorem cells_intW : Tryz.prog.cellsOf 3 = 1 := by kernel_rfl
theorem cells_i64W : Tryz.prog.cellsOf 2 = 1 := by kernel_rfl
theorem cells_boolW : Tryz.prog.cellsOf 4 = 1 := by kernel_rfl
theorem cells_strW : Tryz.prog.cellsOf 9 = 1 := by kernel_rfl
theorem cells_deedW : Tryz.prog.cellsOf 36 = 6 := by kernel_rfl
section
variable {H : Type} {enc : TypeId × Value → H} {W : World}
set_option maxRecDepth 100000 in
theorem open_deedW {fuel : Nat} {cs : List Value} {x : DataW H × List MemPlace} (h : DataW.trod enc Tryz.prog W 0 (fun _ => true) true fuel 36 cs = some x) :
    ∃ t : DeedW, cs = deedW t ∧ FitW t := by
  obtain ⟨xs, n, _, _, hlen, hxs, hg⟩ := DataW.trod_struct Tryz.underlying36 h
  rw [cells_deedW] at hlen
  match cs, hlen with
  | [a0, a1, a2, a3, a4, a5], _ =>
    match xs, hxs with
    | [y0, y1, y2, y3, y4, y5], _ =>
      have g0 : DataW.trod enc Tryz.prog W 0 (fun _ => true) true n 4 (List.take (Tryz.prog.cellsOf 4) (List.drop 0 [a0, a1, a2, a3, a4, a5])) = some y0 := hg 0 _ rfl
      rw [cells_boolW] at g0
      have g1 : DataW.trod enc Tryz.prog W 0 (fun _ => true) true n 2 (List.take (Tryz.prog.cellsOf 2) (List.drop 1 [a0, a1, a2, a3, a4, a5])) = some y1 := hg 1 _ rfl
      rw [cells_i64W] at g1
      have g2 : DataW.trod enc Tryz.prog W 0 (fun _ => true) true n 9 (List.take (Tryz.prog.cellsOf 9) (List.drop 2 [a0, a1, a2, a3, a4, a5])) = some y2 := hg 2 _ rfl
      rw [cells_strW] at g2
      have g3 : DataW.trod enc Tryz.prog W 0 (fun _ => true) true n 3 (List.take (Tryz.prog.cellsOf 3) (List.drop 3 [a0, a1, a2, a3, a4, a5])) = some y3 := hg 3 _ rfl
      rw [cells_intW] at g3
      have g4 : DataW.trod enc Tryz.prog W 0 (fun _ => true) true n 2 (List.take (Tryz.prog.cellsOf 2) (List.drop 4 [a0, a1, a2, a3, a4, a5])) = some y4 := hg 4 _ rfl
      rw [cells_i64W] at g4
      have g5 : DataW.trod enc Tryz.prog W 0 (fun _ => true) true n 2 (List.take (Tryz.prog.cellsOf 2) (List.drop 5 [a0, a1, a2, a3, a4, a5])) = some y5 := hg 5 _ rfl
      rw [cells_i64W] at g5
      simp only [List.drop_zero, List.drop_succ_cons, List.take_succ_cons, List.take_zero] at g0 g1 g2 g3 g4 g5
      obtain ⟨k0, e0, _⟩ := DataW.trod_bool Tryz.underlying4 g0
      obtain ⟨k1, e1, _, w1⟩ := DataW.trod_int Tryz.underlying2 g1
      obtain ⟨k2, e2, _, s2⟩ := DataW.trod_string Tryz.underlying9 g2
      obtain ⟨k3, e3, _, w3⟩ := DataW.trod_int Tryz.underlying3 g3
      obtain ⟨k4, e4, _, w4⟩ := DataW.trod_int Tryz.underlying2 g4
      obtain ⟨k5, e5, _, w5⟩ := DataW.trod_int Tryz.underlying2 g5
      simp at e0 e1 e2 e3 e4 e5
      subst e0 e1 e2 e3 e4 e5
      exact ⟨⟨k0, k1, k2, k3, k4, k5⟩, rfl, bounds_i64 w1, s2, bounds_i64 w3, bounds_i64 w4, bounds_i64 w5⟩
set_option maxRecDepth 100000 in
theorem open_deedsW
    {v : Value} {x : DataW H} {ps : List MemPlace} {r : Reach} {b0 : Nat}
    (hval : Value.okWide Tryz.prog W r b0 22 v) (hd : DataW.Trod enc Tryz.prog W 0 (fun _ => true) true 22 v x ps) :
    ∃ (A : Option Addr) (c : Nat) (l : List DeedW), v = .slice A l.length c ∧ RdDW W A l ∧ l.length ≤ maxLen ∧ ∀ t ∈ l, FitW t := by
  obtain ⟨A0, len0, cap0, rfl⟩ := okWide_slice Tryz.underlying22 hval
  obtain ⟨fuel, h⟩ := hd
  rcases open_slice Tryz.underlying22 h with ⟨hcs, _⟩ | ⟨a, len, cap, m, n, D, Pl, hcs, _, hl, hm, hmm, _, hx⟩
  · simp [Value.cells] at hcs
    obtain ⟨rfl, rfl, rfl⟩ := hcs
    exact ⟨none, 0, [], rfl, .inl rfl, by simp, fun d h => by simp at h⟩
  · simp [Value.cells] at hcs
    obtain ⟨rfl, rfl, rfl⟩ := hcs
    simp only [if_true] at hmm
    subst hmm
    have each : ∀ i, i < len0 → ∃ t : DeedW, (∀ j, j < 6 → W.cell? (a.add (i * 6 + j)) = (deedW t)[j]?) ∧ FitW t := by
      intro i hi
      obtain ⟨cs', h1, h2⟩ := hx i (by omega)
      rw [cells_deedW] at h1
      obtain ⟨_, hlen, hcell⟩ := World.cells?_some h1
      obtain ⟨t, rfl, hf⟩ := open_deedW h2
      exact ⟨t, fun j hj => by have := hcell j hj; rwa [Go.Deep.add_add] at this, hf⟩
    obtain ⟨f, hf⟩ : ∃ f : Nat → DeedW, ∀ i, i < len0 → (∀ j, j < 6 → W.cell? (a.add (i * 6 + j)) = (deedW (f i))[j]?) ∧ FitW (f i) :=
      ⟨fun i => if h : i < len0 then Classical.choose (each i h) else ⟨false, 0, ⟨#[]⟩, 0, 0, 0⟩, fun i hi => by simp only [dif_pos hi]; exact Classical.choose_spec (each i hi)⟩
    have hlen : ((List.range len0).map f).length = len0 := by simp
    refine ⟨some a, _, (List.range len0).map f, by rw [hlen], ?_, by omega, ?_⟩
    · by_cases h0 : len0 = 0
      · subst h0; exact .inl rfl
      · obtain ⟨b, o, spot⟩ := a
        have hsp : spot = none := by
          have h8 : W.cell? ((⟨b, o, spot⟩ : Addr).add (0 * 6 + 0)) = some (.bool (f 0).b) := (hf 0 (by omega)).1 0 (by omega)
          have := World.cell?_spot h8
          simpa [Addr.add] using this
        subst hsp
        refine .inr ⟨b, o, rfl, fun i t hi j hj => ?_⟩
        rw [List.getElem?_map] at hi
        by_cases hil : i < len0
        · rw [List.getElem?_range hil] at hi
          obtain rfl := Option.some.inj hi
          have := (hf i hil).1 j hj
          rw [Go.WideShapes.add_plain] at this
          rw [Nat.add_assoc]
          exact this
        · rw [List.getElem?_eq_none (by simp; omega)] at hi
          cases hi
    · intro t ht
      obtain ⟨i, hi, rfl⟩ := List.mem_map.1 ht
      exact (hf i (by simpa using hi)).2
end
end Go.Proofs.YtedhciolnekpaaaGreatDoor
namespace Go.Proofs.YtedhciolnekpaaaGreatDoor
open Go.ChangeShapes Go.WideShapes Go.ChangeAt Go.RowKit
set_option linter.unusedVariables false

def fewW (l : List DeedW) : Bool := l.all (fun t => decide (t.key.size ≤ 400)) && decide (l.length ≤ 60)
theorem few_no {l : List DeedW} {i : Nat} {t : DeedW} (hi : l[i]? = some t) (h : 400 < t.key.size) : fewW l = false := by
  unfold fewW
  rw [Bool.and_eq_false_iff]
  refine .inl ?_
  rw [Bool.eq_false_iff]
  intro e
  have := List.all_eq_true.1 e t (List.mem_of_getElem? hi)
  simp at this
  omega
theorem few_end {l : List DeedW} (h : ∀ (i : Nat) (t : DeedW), l[i]? = some t → t.key.size ≤ 400) : fewW l = decide (l.length ≤ 60) := by
  unfold fewW
  rw [List.all_eq_true.2 (fun t ht => by
    obtain ⟨i, hi⟩ := List.mem_iff_getElem?.1 ht
    exact decide_eq_true (h i t hi)), Bool.true_and]
theorem fewW_parts {l : List DeedW} (h : fewW l = true) : l.length ≤ 60 ∧ ∀ t ∈ l, t.key.size ≤ 400 := by
  unfold fewW at h
  rw [Bool.and_eq_true] at h
  exact ⟨of_decide_eq_true h.2, fun t ht => by simpa using List.all_eq_true.1 h.1 t ht⟩
set_option maxRecDepth 100000 in
set_option maxHeartbeats 1000000 in
theorem fewW_walk (w W : World) (A : Option Addr) (cap : Nat) (l : List DeedW) (h : RdDW W A l) (hb : Below W.heap.size W w) (hm : l.length ≤ maxLen) :
    Calls Tryz.prog 8 #[.slice A l.length cap] w fun e w' => e = .returned (.bool (fewW l)) ∧ w = w' := by
  have HR := Lib.hid h
  have HB := Lib.hid hb
  have hmm : l.length ≤ 9223372036854775807 := by simp only [maxLen] at hm; omega
  clear h hb hm
  go_enter Tryz.func8, Tryz.ntmps8
  go_wp2_with fail
  go_loopg [3] (l.length) (fun g s3 wx => ∃ (i : Nat), i + g = l.length ∧ s3 = .int .i64 i ∧ Hid (w = wx) ∧ Hid (∀ (j : Nat) (t : DeedW), j < i → l[j]? = some t → t.key.size ≤ 400))
  case atStart => exact ⟨0, by omega, rfl, Lib.hid rfl, Lib.hid (fun j t hj => by omega)⟩
  case round =>
    obtain ⟨i, hig, rfl, HW, HA⟩ := hrel
    have hw := HW.out
    subst hw
    clear HW
    cases gk with
    | zero =>
      have x1 : ¬ i < l.length := by omega
      have HE := Lib.hid (few_end (l := l) (fun j t hj => HA.out j t (by have := (List.getElem?_eq_some_iff.1 hj).1; omega) hj))
      by_cases h6 : l.length ≤ 60
      · have x6 : (l.length : Int) ≤ 60 := by omega
        have HE6 := Lib.hid (HE.out.trans (decide_eq_true h6))
        clear h6
        go_wp2_with fail
        go_ret
        exact ⟨by rw [HE6.out]; rfl, rfl⟩
      · have X6 : Hid (60 < (l.length : Int)) := Lib.hid (by omega)
        have HE6 := Lib.hid (HE.out.trans (decide_eq_false h6))
        clear h6
        go_wp2_with fail
        go_ret
        exact ⟨by rw [HE6.out]; exact congrArg (fun b => Ending.returned (.bool b)) (decide_eq_false (by have := X6.out; omega)), rfl⟩
    | succ g =>
      have x1 : i < l.length := by omega
      obtain ⟨t, ht⟩ : ∃ t, l[i]? = some t := ⟨_, List.getElem?_eq_getElem x1⟩
      obtain ⟨b, o, rfl, hat⟩ := HR.out.at ht
      obtain ⟨_, _, p2, _, _, _⟩ := hat _ HB.out
      have HTT := Lib.hid ht
      clear hat ht
      by_cases hk : t.key.size ≤ 400
      · have x2 : ¬ (400 : Int) < t.key.size := by omega
        have HA' : Hid (∀ (j : Nat) (t : DeedW), j < i + 1 → l[j]? = some t → t.key.size ≤ 400) := Lib.hid (fun j t' hj ht' => by
          rcases Nat.lt_or_ge j i with c | c
          · exact HA.out j t' c ht'
          · obtain rfl : j = i := by omega
            rw [HTT.out] at ht'
            cases ht'
            exact hk)
        clear hk HA
        go_wp2_with fail
        go_roundg g
        case rel => exact ⟨i + 1, by omega, by go_num, Lib.hid rfl, HA'⟩
        case measure => omega
      · have x2 : (400 : Int) < t.key.size := by omega
        have HE := Lib.hid (few_no HTT.out (show 400 < t.key.size by omega))
        clear hk
        go_wp2_with fail
        go_ret
        exact ⟨by rw [HE.out]; rfl, rfl⟩
end Go.Proofs.YtedhciolnekpaaaGreatDoor
