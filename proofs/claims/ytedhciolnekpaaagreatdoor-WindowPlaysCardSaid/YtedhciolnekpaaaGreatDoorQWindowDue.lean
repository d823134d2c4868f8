/-
  Layer 20 (window): the document's Good, Due and Many.
-/
import Derived.Test.YtedhciolnekpaaaGreatDoorQWindowStarts
import Derived.Test.YtedhciolnekpaaaGreatDoorQWindowRows
import Derived.Test.YtedhciolnekpaaaGreatDoorGrpB
namespace Go.Proofs.YtedhciolnekpaaaGreatDoor
open Go.ChangeShapes Go.WideShapes Go.ChangeAt Go.RowKit
set_option linter.unusedVariables false

set_option maxHeartbeats 1000000 in
set_option maxRecDepth 100000 in
theorem ref_due (base : Nat) (w : World) (b : Nat) (t : Tb) (A : Option Addr) (c : Nat) (l : List PtW) (h : Tr base w b t A c l) (hl : l.length ≤ 100) (hb : ∀ p ∈ l, 0 ≤ p.start ∧ p.start ≤ 1099511627776) (hw1 : 1 ≤ t.wd) (hw2 : t.wd ≤ 1099511627776) (mark : Int) :
    Calls Tryz.prog 10 #[.pointer (some ⟨b, 0, none⟩), .int .i64 mark] w fun e w' => e = .returned (.int .i64 (dueW t.wd mark (startsW l) : Nat)) ∧ Below w.heap.size w w' := by
  have CS := Lib.hid (ref_starts base w b t A c l h hl)
  have HT := Lib.hid h
  have HB := Lib.hid (starts_bd hb)
  have HL : Hid ((startsW l).length ≤ 100) := Lib.hid (Nat.le_trans (starts_le l) hl)
  unfold StartsTold at CS
  obtain ⟨K, hK⟩ : ∃ K, startsW l = K := ⟨_, rfl⟩
  rw [hK] at CS HB HL ⊢
  clear h hl hb hK
  go_enter Tryz.func10, Tryz.ntmps10
  go_wp2_with fail
  refine CS.out.mono ?_
  rintro e w1 ⟨D, d, rfl, o1, b1⟩
  have O1 := Lib.hid o1
  have B1 := Lib.hid b1
  clear o1 b1 CS
  go_wp2_with fail
  go_loopg [6, 7] (K.length) (fun g s6 s7 wx => ∃ (i q : Nat), i + g = K.length ∧ s6 = .int .i64 (dueW t.wd mark (K.take i) : Nat) ∧ s7 = .int .i64 i ∧ Hid (wx = w1.drewN q))
  case atStart => exact ⟨0, 0, by omega, rfl, rfl, Lib.hid rfl⟩
  case round =>
    obtain ⟨i, q, hig, rfl, rfl, HW⟩ := hrel
    have hw := HW.out
    subst hw
    clear HW
    cases gk with
    | zero =>
      have x1 : ¬ i < K.length := by omega
      have HE : Hid (K.take i = K) := Lib.hid (List.take_of_length_le (by omega))
      go_wp2_with fail
      go_ret
      exact ⟨by rw [HE.out]; rfl, B1.out.trans ((below_drewN w1 q).mono B1.out.size)⟩
    | succ g =>
      have hlt : i < K.length := by omega
      obtain ⟨s, hs⟩ : ∃ s, K[i]? = some s := ⟨_, List.getElem?_eq_getElem hlt⟩
      obtain ⟨gd, rfl, hgd, hcd⟩ := OwK.at O1.out (by omega)
      have z0 : (w1.drewN q).cell? ⟨gd, i, none⟩ = some (.int .i64 s) := hcd i _ (zCells_at hs)
      have c0 : (w1.drewN q).cell? ⟨b, 0, none⟩ = some (.int .i64 t.wd) := ((HT.out.still B1.out).drewN q).c0
      obtain ⟨hs0, hs1⟩ := HB.out s (List.mem_of_getElem? hs)
      have HN := Lib.hid (due_next (wd := t.wd) (mark := mark) hs)
      have hdl := Nat.le_trans (due_le t.wd mark (K.take i)) (by rw [List.length_take]; omega : (K.take i).length ≤ i)
      have hll := HL.out
      obtain ⟨n, hn⟩ : ∃ n, dueW t.wd mark (K.take i) = n := ⟨_, rfl⟩
      rw [hn] at HN hdl ⊢
      obtain ⟨u, hu⟩ : ∃ u, s + t.wd = u := ⟨_, rfl⟩
      have z1 : IntKind.i64.wrap (s + t.wd) = u := by rw [IntKind.wrap_i64]; omega
      rw [hu] at HN
      clear hn hgd hcd hs hs0 hs1 hu
      generalize hU : w1.drewN q = U at z0 c0 ⊢
      have HU := Lib.hid hU
      clear hU
      by_cases cc : u ≤ mark
      · have y1 := Lib.hid cc
        have HE := HN.out
        rw [if_pos cc] at HE
        have HE := Lib.hid HE
        clear cc HN
        have z2 : IntKind.i64.wrap ((n : Int) + 1) = ((n + 1 : Nat) : Int) := by rw [IntKind.wrap_i64]; omega
        go_wp2_with fail
        go_quiet (fail)
        have y1' := y1.out
        all_goals go_wp2_with fail
        go_roundg g
        case rel => exact ⟨i + 1, q + nq, by omega, by rw [HE.out]; go_num, by go_num, Lib.hid (by rw [← HU.out, drew_drew])⟩
        case measure => omega
      · have y1 : Hid (mark < u) := Lib.hid (by omega)
        have HE := HN.out
        rw [if_neg cc, Nat.add_zero] at HE
        have HE := Lib.hid HE
        clear cc HN
        go_wp2_with fail
        go_quiet (fail)
        have y1' : ¬ u ≤ mark := by have := y1.out; omega
        all_goals go_wp2_with fail
        go_roundg g
        case rel => exact ⟨i + 1, q + nq, by omega, by first | (rw [HE.out]; done) | (rw [HE.out]; rfl) | (rw [HE.out]; go_num), by go_num, Lib.hid (by rw [← HU.out, drew_drew])⟩
        case measure => omega
set_option maxHeartbeats 1000000 in
set_option maxRecDepth 100000 in
theorem ref_many (base : Nat) (w : World) (b : Nat) (t : Tb) (A : Option Addr) (c : Nat) (l : List PtW) (h : Tr base w b t A c l) (hl : l.length ≤ 100) (hp : ∀ p ∈ l, PtOk p) :
    Calls Tryz.prog 20 #[.pointer (some ⟨b, 0, none⟩)] w fun e w' => e = .returned (.int .i64 (allW l : Nat)) ∧ Below w.heap.size w w' := by
  have CS := Lib.hid (ref_starts base w b t A c l h hl)
  have CR := Lib.hid (fun wx (hb : Below w.heap.size w wx) s => ref_rows base wx b t A c l (h.still hb) hl hp s)
  have HL : Hid ((startsW l).length ≤ 100) := Lib.hid (Nat.le_trans (starts_le l) hl)
  have HR : Hid (∀ s, (rowsW s l).length ≤ 100) := Lib.hid (fun s => Nat.le_trans (rows_le s l) hl)
  unfold StartsTold at CS
  unfold RowsTold at CR
  have HA : Hid (allW l = ((startsW l).map (fun s => (rowsW s l).length)).sum) := Lib.hid rfl
  obtain ⟨f, hf⟩ : ∃ f : Int → List Rw, (fun s => rowsW s l) = f := ⟨_, rfl⟩
  have hf' : ∀ s, rowsW s l = f s := fun s => by rw [← hf]
  simp only [hf'] at CR HA HR
  obtain ⟨K, hK⟩ : ∃ K, startsW l = K := ⟨_, rfl⟩
  rw [hK] at CS HL HA
  have HB : Hid (∀ i ≤ K.length, ((K.take i).map (fun s => (f s).length)).sum ≤ i * 100) := Lib.hid (fun i => by
    induction i with
    | zero => intro _; simp
    | succ i ih =>
      intro hi
      have hs : K[i]? = some K[i] := List.getElem?_eq_getElem (by omega)
      rw [sumR_next hs]
      have := ih (by omega)
      have := HR.out K[i]
      omega)
  clear h hl hp hf hf' hK
  go_enter Tryz.func20, Tryz.ntmps20
  go_wp2_with fail
  refine CS.out.mono ?_
  rintro e w1 ⟨D, d, rfl, o1, b1⟩
  have O1 := Lib.hid o1
  have B1 := Lib.hid b1
  clear o1 b1 CS
  go_wp2_with fail
  go_loopg [4, 5] (K.length) (fun g s4 s5 wx => ∃ (i : Nat), i + g = K.length ∧ s4 = .int .i64 ((((K.take i).map (fun s => (f s).length)).sum : Nat) : Int) ∧ s5 = .int .i64 i ∧ Hid (Below w1.heap.size w1 wx))
  case atStart => exact ⟨0, by omega, rfl, rfl, Lib.hid (Below.refl _ _)⟩
  case round =>
    obtain ⟨i, hig, rfl, rfl, HW⟩ := hrel
    have hib := HB.out i (by omega)
    cases gk with
    | zero =>
      have x1 : ¬ i < K.length := by omega
      have HE : Hid (K.take i = K) := Lib.hid (List.take_of_length_le (by omega))
      go_wp2_with fail
      go_ret
      exact ⟨by rw [HA.out, HE.out]; rfl, B1.out.trans (HW.out.mono B1.out.size)⟩
    | succ g =>
      have hlt : i < K.length := by omega
      obtain ⟨s, hs⟩ : ∃ s, K[i]? = some s := ⟨_, List.getElem?_eq_getElem hlt⟩
      obtain ⟨gd, rfl, hgd, hcd⟩ := OwK.at (OwK.below O1.out HW.out) (by omega)
      have z0 : wr.cell? ⟨gd, i, none⟩ = some (.int .i64 s) := hcd i _ (zCells_at hs)
      have HN := Lib.hid (sumR_next (f := fun s => (f s).length) hs)
      have CC := Lib.hid (CR.out wr (B1.out.trans (HW.out.mono B1.out.size)) s)
      have hll := HL.out
      have hrs := HR.out s
      obtain ⟨m, hm⟩ : ∃ m, (f s).length = m := ⟨_, rfl⟩
      obtain ⟨n, hn⟩ : ∃ n, ((K.take i).map (fun s => (f s).length)).sum = n := ⟨_, rfl⟩
      have HM := Lib.hid hm
      rw [hn, hm] at HN
      rw [hn] at hib
      rw [hm] at hrs
      rw [hn]
      have z2 : IntKind.i64.wrap ((n : Int) + (m : Int)) = ((n + m : Nat) : Int) := by rw [IntKind.wrap_i64]; omega
      clear hn hm hgd hcd hs
      go_wp2_with fail
      refine CC.out.mono ?_
      rintro e w3 ⟨x, D', d', rfl, hx, _, b3⟩
      have hx := congrArg List.length hx
      rw [List.length_map, HM.out] at hx
      rw [hx]
      have HW3 : Hid (Below w1.heap.size w1 w3) := Lib.hid (HW.out.trans (b3.mono HW.out.size))
      clear b3 hx CC
      go_wp2_with fail
      go_roundg g
      case rel => exact ⟨i + 1, by omega, by rw [HN.out]; go_num, by go_num, HW3⟩
      case measure => omega
end Go.Proofs.YtedhciolnekpaaaGreatDoor
