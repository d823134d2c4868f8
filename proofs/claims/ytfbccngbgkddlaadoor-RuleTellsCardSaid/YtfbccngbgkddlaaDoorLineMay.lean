/-
  Layer 4: whether an event may be, the program's and the document's own; and whether it is small enough to be gone through.
-/
import Derived.Test.YtfbccngbgkddlaaDoorLineSame
import Derived.Test.YtfbccngbgkddlaaDoorLineWord
namespace Go.Proofs.YtfbccngbgkddlaaDoor
open Go.ChangeShapes Go.WideShapes Go.ChangeAt Go.RowKit
set_option linter.unusedVariables false

def tagOk (t : ByteArray × ByteArray) : Bool := wordB t.1 && wordB t.2
def restOk (k t : Int) : Bool := decide (1 ≤ k) && decide (k ≤ 3) && decide (0 ≤ t) && decide (t ≤ 1099511627776)
def mayB (n : ByteArray) (ts : Tags) (k t : Int) : Bool := wordB n && decide (ts.length ≤ 6) && ts.all tagOk && restOk k t
def Small (n : ByteArray) (ts : Tags) : Prop := n.size ≤ 100 ∧ ts.length ≤ 20 ∧ ∀ x y, (x, y) ∈ ts → x.size ≤ 100 ∧ y.size ≤ 100

/-- Tags that are gone through in a block of an event, wherever they lie. -/
structure Go4 (w : World) (g : Nat) (n : ByteArray) (A : Option Addr) (c : Nat) (k v t : Int) (ts : Tags) (wr : World) : Prop where
  below : Below w.heap.size w wr
  ev : EvB wr g n A ts.length c k v t
  rd : RdT wr A ts
theorem Go4.at {w : World} {g : Nat} {n : ByteArray} {A : Option Addr} {c : Nat} {k v t : Int} {ts : Tags} {wr : World} (h : Go4 w g n A c k v t ts wr) {i : Nat} {x y : ByteArray} (hi : ts[i]? = some (x, y)) :
    ∃ b o, A = some ⟨b, o, none⟩ ∧ wr.cell? ⟨b, o + i * 2, none⟩ = some (.string x) ∧ wr.cell? ⟨b, o + i * 2 + 1, none⟩ = some (.string y) := by
  rcases h.rd with h0 | ⟨b, o, e, hc⟩
  · rw [h0] at hi; simp at hi
  · exact ⟨b, o, e, hc i x y hi⟩
theorem Go4.start (w : World) (n : ByteArray) (A : Option Addr) (c : Nat) (k v t : Int) (ts : Tags) (hr : RdT w A ts) :
    Go4 w w.heap.size n A c k v t ts (w.alloc (.cells #[.string n, .slice A ts.length c, .int .i64 k, .int .i64 v, .int .i64 t] 25)) :=
  ⟨(Below.refl _ _).alloc (Nat.le_refl _) _, heap_alloc_new w _, hr.alloc _⟩
theorem Go4.more {w : World} {g : Nat} {n : ByteArray} {A : Option Addr} {c : Nat} {k v t : Int} {ts : Tags} {wr : World} (h : Go4 w g n A c k v t ts wr) (o : Obj) : Go4 w g n A c k v t ts (wr.alloc o) :=
  ⟨h.below.alloc h.below.size _, by unfold EvB; rw [(World.grownBy_alloc _ _ none).block _ (lt_of_block h.ev) (by simp)]; exact h.ev, h.rd.alloc _⟩

theorem Go4.drew {w : World} {g : Nat} {n : ByteArray} {A : Option Addr} {c : Nat} {k v t : Int} {ts : Tags} {wr : World} (h : Go4 w g n A c k v t ts wr) (m : Nat) : Go4 w g n A c k v t ts (wr.drewN m) :=
  ⟨⟨h.below.os, h.below.tape, h.below.output, h.below.size, h.below.block⟩, h.ev, h.rd.keep fun b o x hc => hc⟩
def BB (b : Bool) (w : World) (e : Ending) (w' : World) : Prop := e = .returned (.bool b) ∧ Below w.heap.size w w'
theorem all_false {ts : Tags} {i : Nat} {x y : ByteArray} (h : ts[i]? = some (x, y)) (hb : tagOk (x, y) = false) : ts.all tagOk = false := by
  rw [List.all_eq_false]; exact ⟨(x, y), List.mem_of_getElem? h, by rw [hb]; simp⟩
def AllOk (ts : Tags) (i : Nat) : Prop := (ts.take i).all tagOk = true
theorem AllOk.next {ts : Tags} {i : Nat} {x y : ByteArray} (h : AllOk ts i) (hi : ts[i]? = some (x, y)) (hb : tagOk (x, y) = true) : AllOk ts (i + 1) := by
  unfold AllOk at h ⊢
  obtain ⟨hl, e⟩ := List.getElem?_eq_some_iff.1 hi
  rw [List.take_succ_eq_append_getElem hl, List.all_append, h, e]
  simp [hb]
theorem AllOk.whole {ts : Tags} {i : Nat} (h : AllOk ts i) (hi : ts.length ≤ i) : ts.all tagOk = true := by
  unfold AllOk at h
  rwa [List.take_of_length_le hi] at h

/-- How the last test goes, of the kind and the time. -/
theorem rest_cases (k t : Int) : (decide (1 ≤ k) = false ∧ restOk k t = false) ∨ (decide (1 ≤ k) = true ∧ decide (k ≤ 3) = false ∧ restOk k t = false)
    ∨ (decide (1 ≤ k) = true ∧ decide (k ≤ 3) = true ∧ decide (0 ≤ t) = false ∧ restOk k t = false) ∨ (decide (1 ≤ k) = true ∧ decide (k ≤ 3) = true ∧ decide (0 ≤ t) = true ∧ decide (t ≤ 1099511627776) = false ∧ restOk k t = false)
    ∨ (decide (1 ≤ k) = true ∧ decide (k ≤ 3) = true ∧ decide (0 ≤ t) = true ∧ decide (t ≤ 1099511627776) = true ∧ restOk k t = true) := by
  unfold restOk
  cases h1 : decide (1 ≤ k)
  · exact .inl ⟨rfl, by simp⟩
  cases h2 : decide (k ≤ 3)
  · exact .inr (.inl ⟨rfl, rfl, by simp⟩)
  cases h3 : decide (0 ≤ t)
  · exact .inr (.inr (.inl ⟨rfl, rfl, rfl, by simp⟩))
  cases h4 : decide (t ≤ 1099511627776)
  · exact .inr (.inr (.inr (.inl ⟨rfl, rfl, rfl, rfl, by simp⟩)))
  · exact .inr (.inr (.inr (.inr ⟨rfl, rfl, rfl, rfl, by simp⟩)))

set_option maxHeartbeats 2000000 in
theorem lineMay (n : ByteArray) (A : Option Addr) (c : Nat) (k v t : Int) (ts : Tags) (w : World) (hr : RdT w A ts) (hS : Small n ts) :
    Calls Tryd.prog 23 #[evVal n A ts.length c k v t] w (BB (mayB n ts k t) w) := by
  have G0 := Lib.hid (Go4.start w n A c k v t ts hr)
  obtain ⟨hn, hl, hx⟩ := hS
  have HX := Lib.hid hx
  clear hx hr
  have CN := Lib.hid (fun w' => lineIsWord n w' (by omega))
  unfold evVal
  go_enter Tryd.func23, Tryd.ntmps23
  go_wp2_with fail
  rcases hw : wordB n with _ | _
  · have HM : Hid (mayB n ts k t = false) := Lib.hid (by unfold mayB; rw [hw]; simp)
    rw [hw] at CN
    clear hw
    refine (CN.out _).mono ?_
    rintro e w' ⟨rfl, rfl⟩
    go_wp2_with fail
    go_ret
    exact ⟨ret_bool HM.out.symm, G0.out.below⟩
  rw [hw] at CN
  by_cases h6 : 6 < ts.length
  · have HM : Hid (mayB n ts k t = false) := Lib.hid (by unfold mayB; rw [show decide (ts.length ≤ 6) = false from decide_eq_false (by omega)]; simp)
    have e6 : decide ((6 : Int) < ts.length) = true := decide_eq_true (by omega)
    clear hw
    refine (CN.out _).mono ?_
    rintro e w' ⟨rfl, rfl⟩
    go_wp2_with fail
    go_ret
    exact ⟨ret_bool HM.out.symm, G0.out.below⟩
  have e6 : decide ((6 : Int) < ts.length) = false := decide_eq_false (by omega)
  have HM : Hid (∀ b, ts.all tagOk = b → mayB n ts k t = (b && restOk k t)) := Lib.hid (fun b hb => by unfold mayB; rw [hw, hb, show decide (ts.length ≤ 6) = true from decide_eq_true (by omega)]; simp)
  clear hw
  refine (CN.out _).mono ?_
  rintro e w' ⟨rfl, rfl⟩
  go_wp2_with fail
  clear CN e6
  go_loopg [18] (ts.length) (fun g s18 wx => ∃ i : Nat, i + g = ts.length ∧ s18 = .int .i64 i ∧ Hid (AllOk ts i ∧ Go4 w w.heap.size n A c k v t ts wx))
  case atStart => exact ⟨0, by omega, rfl, Lib.hid ⟨rfl, G0.out⟩⟩
  case round =>
    clear G0
    obtain ⟨i, hig, rfl, HG⟩ := hrel
    cases gk with
    | zero =>
      have e1 : decide ((i : Int) < (ts.length : Int)) = false := decide_eq_false (by omega)
      have e2 : decide (i < ts.length) = false := decide_eq_false (by omega)
      have c2 := HG.out.2.ev.c2
      have c4 := HG.out.2.ev.c4
      have HA := Lib.hid (HM.out true (HG.out.1.whole (by omega)))
      have hrest := rest_cases k t
      rcases hrest with ⟨g1, gr⟩ | ⟨g1, g2, gr⟩ | ⟨g1, g2, g3, gr⟩ | ⟨g1, g2, g3, g4, gr⟩ | ⟨g1, g2, g3, g4, gr⟩
      all_goals
        rw [gr] at HA
        clear gr
        go_wp2_with fail
        go_ret
        exact ⟨ret_bool HA.out.symm, HG.out.2.below⟩
    | succ g =>
      have hlt : i < ts.length := by omega
      have hltz : (i : Int) < (ts.length : Int) := by omega
      obtain ⟨x, y, hxy⟩ : ∃ x y, ts[i]? = some (x, y) := ⟨_, _, List.getElem?_eq_getElem hlt⟩
      obtain ⟨b, o, hA, p0, p1⟩ := HG.out.2.at hxy
      obtain ⟨sx, sy⟩ := HX.out x y (List.mem_of_getElem? hxy)
      have CX := Lib.hid (fun w' => lineIsWord x w' (by omega))
      have CY := Lib.hid (fun w' => lineIsWord y w' (by omega))
      have HXY := Lib.hid hxy
      clear hxy
      subst hA
      rcases hbx : wordB x with _ | _
      · have HF := Lib.hid ((HM.out false (all_false HXY.out (by unfold tagOk; simp [hbx]))).trans (Bool.false_and _))
        rw [hbx] at CX
        clear hbx
        go_wp2_with fail
        refine (CX.out _).mono ?_
        rintro e w' ⟨rfl, rfl⟩
        go_wp2_with fail
        go_ret
        exact ⟨ret_bool HF.out.symm, (HG.out.2.more _).below⟩
      rw [hbx] at CX
      rcases hby : wordB y with _ | _
      · have HF := Lib.hid ((HM.out false (all_false HXY.out (by unfold tagOk; simp [hby]))).trans (Bool.false_and _))
        rw [hby] at CY
        clear hbx hby
        go_wp2_with fail
        refine (CX.out _).mono ?_
        rintro e w' ⟨rfl, rfl⟩
        go_wp2_with fail
        refine (CY.out _).mono ?_
        rintro e w' ⟨rfl, rfl⟩
        go_wp2_with fail
        go_ret
        exact ⟨ret_bool HF.out.symm, (HG.out.2.more _).below⟩
      · have HN := Lib.hid (HG.out.1.next HXY.out (by unfold tagOk; simp [hbx, hby]))
        rw [hby] at CY
        clear hbx hby
        go_wp2_with fail
        refine (CX.out _).mono ?_
        rintro e w' ⟨rfl, rfl⟩
        go_wp2_with fail
        refine (CY.out _).mono ?_
        rintro e w' ⟨rfl, rfl⟩
        go_wp2_with fail
        go_roundg g
        case rel => exact ⟨i + 1, by omega, by go_num, Lib.hid ⟨HN.out, HG.out.2.more _⟩⟩
        case measure => omega
end Go.Proofs.YtfbccngbgkddlaaDoor
