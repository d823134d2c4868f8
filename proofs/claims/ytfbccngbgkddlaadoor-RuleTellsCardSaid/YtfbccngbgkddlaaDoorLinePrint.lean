/-
  Layer 4 (line): line.Print: the line of an event that may be, or the error ErrArg.
-/
import Derived.Test.YtfbccngbgkddlaaDoorLineOwn
import Derived.Test.YtfbccngbgkddlaaDoorLineLaid
namespace Go.Proofs.YtfbccngbgkddlaaDoor
open Go.ChangeShapes Go.WideShapes Go.ChangeAt Go.RowKit
set_option linter.unusedVariables false

def PrintBad (w : World) (e : Ending) (w' : World) : Prop := e = .returned (.tuple #[.string ⟨#[]⟩, .iface 35 (.int .i64 1)]) ∧ Below w.heap.size w w'
def PrintGood (l : List UInt8) (w : World) (e : Ending) (w' : World) : Prop := e = .returned (.tuple #[.string ⟨l.toArray⟩, .nilIface]) ∧ Below w.heap.size w w'

set_option maxHeartbeats 1000000 in
theorem linePrintBad (n : ByteArray) (A : Option Addr) (c : Nat) (k v t : Int) (ts : Tags) (w : World) (hr : RdT w A ts) (hS : Small n ts) (hm : mayB n ts k t = false) :
    Calls Tryd.prog 20 #[evVal n A ts.length c k v t] w (PrintBad w) := by
  have G0 := Lib.hid (Go4.start w n A c k v t ts hr)
  have CM := Lib.hid (lineMay n A c k v t ts _ G0.out.rd hS)
  rw [hm] at CM
  have c0 := G0.out.ev.c0
  have c1 := G0.out.ev.c1
  have c2 := G0.out.ev.c2
  have c3 := G0.out.ev.c3
  have c4 := G0.out.ev.c4
  clear hm hr
  unfold evVal at CM ⊢
  go_enter Tryd.func20, Tryd.ntmps20
  go_wp2_with ((go_at_call 23; refine CM.out.mono ?_); rintro e w1 ⟨rfl, hb⟩)
  go_ret2
  exact ⟨rfl, G0.out.below.trans (hb.mono G0.out.below.size)⟩

/-- Behind the loop: the kind's letter between spaces. -/
theorem ob_letter {w : World} {B : Nat} {v : Value} {l : List UInt8} (h : OB w B v l) (k : Int) (z : Int) (hk : (k = 1 ∧ z = 99) ∨ (k = 2 ∧ z = 103) ∨ (k = 3 ∧ z = 104)) (hl : l.length ≤ 5000) (hB : B ≤ w.heap.size) :
    ∃ v' w', (Builtin.append_ #[60, 60] 60 #[v, .slice (some ⟨w.heap.size, 0, none⟩) 3 3]).run Tryd.prog (w.alloc (.cells #[.int .u8 32, .int .u8 z, .int .u8 32] 5)) = .ok v' w' ∧ OB w' B v' (l ++ [32] ++ [letter k] ++ [32]) ∧ Gr B w w' := by
  obtain ⟨v', w', r, o, g⟩ := ob_lit h [32, letter k, 32] (by simp; omega) hB
  refine ⟨v', w', ?_, by simpa using o, g⟩
  have hz : Lib.byteCells [32, letter k, 32] = [.int .u8 32, .int .u8 z, .int .u8 32] := by
    rcases hk with ⟨rfl, rfl⟩ | ⟨rfl, rfl⟩ | ⟨rfl, rfl⟩ <;> rfl
  rw [hz] at r
  exact r
theorem ob_space {w : World} {B : Nat} {v : Value} {l : List UInt8} (h : OB w B v l) (hl : l.length ≤ 6000) (hB : B ≤ w.heap.size) :
    ∃ v' w', (Builtin.append_ #[60, 60] 60 #[v, .slice (some ⟨w.heap.size, 0, none⟩) 1 1]).run Tryd.prog (w.alloc (.cells #[.int .u8 32] 5)) = .ok v' w' ∧ OB w' B v' (l ++ [32]) ∧ Gr B w w' :=
  ob_lit h [32] (by simp; omega) hB
def Itoas (B : Nat) (l : List UInt8) (w : World) (e : Ending) (w' : World) : Prop := ∃ v', e = .returned v' ∧ OB w' B v' l ∧ Gr B w w'
theorem appendInt {w : World} {B : Nat} {v : Value} {l : List UInt8} (h : OB w B v l) (i : Int) (h0 : -9223372036854775808 ≤ i) (h1 : i ≤ 9223372036854775807) (hl : l.length ≤ 6000) (hB : B ≤ w.heap.size)
    (ht : Lib.TabBelow Tryd.prog B w "internal/strconv.uint64pow10" .u64 Lib.pow10Tab) : Calls Tryd.prog 29 #[v, .int .i64 i, .int .i64 10] w (Itoas B (l ++ Lib.itoa i) w) :=
  (Tryd.strconv_AppendInt_10 B l.length i h0 h1 v _ w h hB (by omega) ht).mono fun e w' ⟨v', he, ho, hb, hk⟩ => ⟨v', he, by unfold OB; rw [byteCells_app, List.length_append]; exact ho, hb, hk⟩
def letterZ (k : Int) : Int := if k = 1 then 99 else if k = 2 then 103 else 104
theorem may_open {n : ByteArray} {ts : Tags} {k t : Int} (h : mayB n ts k t = true) : (k = 1 ∨ k = 2 ∨ k = 3) ∧ 0 ≤ t ∧ t ≤ 1099511627776 ∧ ts.length ≤ 6 := by
  unfold mayB restOk at h
  simp only [Bool.and_eq_true, decide_eq_true_eq] at h
  omega

set_option maxHeartbeats 2000000 in
set_option maxRecDepth 100000 in
theorem linePrint1 (n : ByteArray) (A : Option Addr) (c : Nat) (v t : Int) (ts : Tags) (w : World) (hL : Laid w) (hr : RdT w A ts) (hS : Small n ts) (hm : mayB n ts 1 t = true)
    (v0 : -9223372036854775808 ≤ v) (v1 : v ≤ 9223372036854775807) :
    Calls Tryd.prog 20 #[evVal n A ts.length c 1 v t] w (PrintGood (printL n ts 1 v t) w) := by
  have G0 := Lib.hid (Go4.start w n A c 1 v t ts hr)
  have HR := Lib.hid hr
  have HS := Lib.hid hS
  have CM := Lib.hid (lineMay n A c 1 v t ts _ G0.out.rd hS)
  rw [hm] at CM
  have hmo := (may_open hm).2
  obtain ⟨t0, t1, h6⟩ := hmo
  have HT := Lib.hid (Lib.tabBelow_of_tabIs hL.tab)
  have hn := hS.1
  have HN : Hid (∀ (i : Nat) (x y : ByteArray), ts[i]? = some (x, y) → x.size ≤ 100 ∧ y.size ≤ 100) := Lib.hid (fun i x y h => hS.2.2 x y (List.mem_of_getElem? h))
  have HP : Hid (printL n ts 1 v t = headL n ts ++ [32] ++ [letter 1] ++ [32] ++ Lib.itoa v ++ [32] ++ Lib.itoa t) := Lib.hid rfl
  have hle : Hid (∀ i, (headL n (ts.take i)).length ≤ 5000) := Lib.hid (fun i => headL_le ⟨hS.1, by rw [List.length_take]; omega, fun x y h => hS.2.2 x y (List.mem_of_mem_take h)⟩)
  clear hm hr hS
  unfold evVal at CM ⊢
  go_enter Tryd.func20, Tryd.ntmps20
  go_wp2_with fail
  refine CM.out.mono ?_
  rintro e w1 ⟨rfl, hb1⟩
  have G1 := Lib.hid (show Go4 w w.heap.size n A c 1 v t ts w1 from ⟨G0.out.below.trans (hb1.mono G0.out.below.size), by unfold EvB; rw [hb1.block _ (lt_of_block G0.out.ev)]; exact G0.out.ev, HR.out.below (G0.out.below.trans (hb1.mono G0.out.below.size))⟩)
  have hz1 : w.heap.size ≤ w1.heap.size := G1.out.below.size
  obtain ⟨u, w2, r, o, g⟩ := ob_str (OB.nil w1 w.heap.size) n (by simp; omega) hz1
  have c0 := G1.out.ev.c0
  have R := Lib.hid r
  have G2 := Lib.hid (G1.out.gr HR.out g)
  have O2 := Lib.hid (show OB w2 w.heap.size u (headL n (ts.take 0)) by simpa [headL] using o)
  have c1 := G2.out.ev.c1
  clear hb1 G0 CM G1 r o g
  go_wp2_with (at_builtin; refine wpList_append_two rfl (.const (.slice none 0 0)) (.tmp 12) 60 9 rfl _ _ _ rfl rfl R.out ?_)
  clear R c0 c1
  go_loopg [4, 17] (ts.length) (fun g s4 s17 wx => ∃ i : Nat, i + g = ts.length ∧ s17 = .int .i64 i ∧ Hid (OB wx w.heap.size s4 (headL n (ts.take i)) ∧ Go4 w w.heap.size n A c 1 v t ts wx))
  case atStart => exact ⟨0, by omega, rfl, Lib.hid ⟨O2.out, G2.out⟩⟩
  case round =>
    clear O2 G2
    obtain ⟨i, hig, rfl, HG⟩ := hrel
    cases gk with
    | zero =>
      have e1 : decide ((i : Int) < (ts.length : Int)) = false := decide_eq_false (by omega)
      have e2 : decide (i < ts.length) = false := decide_eq_false (by omega)
      have hle0 := hle.out ts.length
      rw [List.take_of_length_le (Nat.le_refl _)] at hle0
      have c2 := HG.out.2.ev.c2
      have B0 := HG.out.2.below.size
      have G4 := Lib.hid HG.out.2
      obtain ⟨v5, w5, r5, o5, g5⟩ := ob_letter (show OB wr w.heap.size u4 (headL n ts) by have := HG.out.1; rwa [List.take_of_length_le (by omega)] at this) 1 99 (by decide) hle0 B0
      have R5 := Lib.hid r5
      have O5 := Lib.hid o5
      have G5 := Lib.hid (G4.out.gr HR.out g5)
      have c3 := G5.out.ev.c3
      have L1 := itoa_le v v0 v1
      have L2 := itoa_le t (by omega) (by omega)
      have B5 := G5.out.below.size
      have CV := Lib.hid (appendInt O5.out v v0 v1 (by simp only [List.length_append, List.length_cons, List.length_nil]; omega) B5 (HT.out.on G5.out.below))
      clear HG r5 o5 g5 hle HN
      go_wp2_with (at_builtin; refine wpList_append_two rfl (.tmp 36) (.tmp 41) 60 60 rfl _ _ _ rfl rfl R5.out ?_)
      refine CV.out.mono ?_
      rintro e w6 ⟨v6, rfl, o6, g6⟩
      have G6 := Lib.hid (G5.out.gr HR.out g6)
      have B6 := G6.out.below.size
      obtain ⟨v7, w7, r7, o7, g7⟩ := ob_space o6 (by simp only [List.length_append, List.length_cons, List.length_nil]; omega) B6
      have R7 := Lib.hid r7
      have G7 := Lib.hid (G6.out.gr HR.out g7)
      have B7 := G7.out.below.size
      have c4 := G7.out.ev.c4
      have CW := Lib.hid (appendInt o7 t (by omega) (by omega) (by simp only [List.length_append, List.length_cons, List.length_nil]; omega) B7 (HT.out.on G7.out.below))
      clear CV O5 G5 c2 c3 r7 o7 g7 o6 g6 R5
      go_wp2_with (at_builtin; refine wpList_append_two rfl (.tmp 47) (.tmp 48) 60 60 rfl _ _ _ rfl rfl R7.out ?_)
      refine CW.out.mono ?_
      rintro e w8 ⟨v8, rfl, o8, g8⟩
      have G8 := Lib.hid (G7.out.gr HR.out g8)
      have kc := o8.conv (by simp)
      rw [← HP.out] at kc
      clear CW R7 o8 g8 c4
      go_wp2_with fail
      go_ret2
      exact ⟨rfl, G8.out.below⟩
    | succ g =>
      have hlt : i < ts.length := by omega
      have hltz : (i : Int) < (ts.length : Int) := by omega
      obtain ⟨x, y, hxy⟩ : ∃ x y, ts[i]? = some (x, y) := ⟨_, _, List.getElem?_eq_getElem hlt⟩
      obtain ⟨b, o, hA, p0, p1⟩ := HG.out.2.at hxy
      obtain ⟨sx, sy⟩ := HN.out i x y hxy
      obtain ⟨v1', w1', v2', w2', v3', w3', v4', w4', r1, r2, r3, r4, q1, q2, o4, g4⟩ := round_made wr w.heap.size u4 (headL n (ts.take i)) x y HG.out.1 HG.out.2.below.size (hle.out i) sx sy
      have HO4 := Lib.hid (show OB w4' w.heap.size v4' (headL n (ts.take (i + 1))) by rw [headL_next hxy]; exact o4)
      have HG4 := Lib.hid (HG.out.2.gr HR.out g4)
      have R1 := Lib.hid r1
      have R2 := Lib.hid r2
      have R3 := Lib.hid r3
      have R4 := Lib.hid r4
      clear hxy r1 r2 r3 r4 o4 g4 HG
      subst hA
      go_wp2_with (first
        | (at_builtin; refine wpList_append_two rfl (.tmp 21) (.tmp 22) 60 60 rfl _ _ _ rfl rfl R1.out ?_)
        | (at_builtin; refine wpList_append_two rfl (.tmp 24) (.tmp 26) 60 9 rfl _ _ _ rfl rfl R2.out ?_)
        | (at_builtin; refine wpList_append_two rfl (.tmp 28) (.tmp 29) 60 60 rfl _ _ _ rfl rfl R3.out ?_)
        | (at_builtin; refine wpList_append_two rfl (.tmp 31) (.tmp 33) 60 9 rfl _ _ _ rfl rfl R4.out ?_))
      go_roundg g
      case rel => exact ⟨i + 1, by omega, by go_num, Lib.hid ⟨HO4.out, HG4.out⟩⟩
      case measure => omega

set_option maxHeartbeats 2000000 in
set_option maxRecDepth 100000 in
theorem linePrint2 (n : ByteArray) (A : Option Addr) (c : Nat) (v t : Int) (ts : Tags) (w : World) (hL : Laid w) (hr : RdT w A ts) (hS : Small n ts) (hm : mayB n ts 2 t = true)
    (v0 : -9223372036854775808 ≤ v) (v1 : v ≤ 9223372036854775807) :
    Calls Tryd.prog 20 #[evVal n A ts.length c 2 v t] w (PrintGood (printL n ts 2 v t) w) := by
  have G0 := Lib.hid (Go4.start w n A c 2 v t ts hr)
  have HR := Lib.hid hr
  have HS := Lib.hid hS
  have CM := Lib.hid (lineMay n A c 2 v t ts _ G0.out.rd hS)
  rw [hm] at CM
  have hmo := (may_open hm).2
  obtain ⟨t0, t1, h6⟩ := hmo
  have HT := Lib.hid (Lib.tabBelow_of_tabIs hL.tab)
  have hn := hS.1
  have HN : Hid (∀ (i : Nat) (x y : ByteArray), ts[i]? = some (x, y) → x.size ≤ 100 ∧ y.size ≤ 100) := Lib.hid (fun i x y h => hS.2.2 x y (List.mem_of_getElem? h))
  have HP : Hid (printL n ts 2 v t = headL n ts ++ [32] ++ [letter 2] ++ [32] ++ Lib.itoa v ++ [32] ++ Lib.itoa t) := Lib.hid rfl
  have hle : Hid (∀ i, (headL n (ts.take i)).length ≤ 5000) := Lib.hid (fun i => headL_le ⟨hS.1, by rw [List.length_take]; omega, fun x y h => hS.2.2 x y (List.mem_of_mem_take h)⟩)
  clear hm hr hS
  unfold evVal at CM ⊢
  go_enter Tryd.func20, Tryd.ntmps20
  go_wp2_with fail
  refine CM.out.mono ?_
  rintro e w1 ⟨rfl, hb1⟩
  have G1 := Lib.hid (show Go4 w w.heap.size n A c 2 v t ts w1 from ⟨G0.out.below.trans (hb1.mono G0.out.below.size), by unfold EvB; rw [hb1.block _ (lt_of_block G0.out.ev)]; exact G0.out.ev, HR.out.below (G0.out.below.trans (hb1.mono G0.out.below.size))⟩)
  have hz1 : w.heap.size ≤ w1.heap.size := G1.out.below.size
  obtain ⟨u, w2, r, o, g⟩ := ob_str (OB.nil w1 w.heap.size) n (by simp; omega) hz1
  have c0 := G1.out.ev.c0
  have R := Lib.hid r
  have G2 := Lib.hid (G1.out.gr HR.out g)
  have O2 := Lib.hid (show OB w2 w.heap.size u (headL n (ts.take 0)) by simpa [headL] using o)
  have c1 := G2.out.ev.c1
  clear hb1 G0 CM G1 r o g
  go_wp2_with (at_builtin; refine wpList_append_two rfl (.const (.slice none 0 0)) (.tmp 12) 60 9 rfl _ _ _ rfl rfl R.out ?_)
  clear R c0 c1
  go_loopg [4, 17] (ts.length) (fun g s4 s17 wx => ∃ i : Nat, i + g = ts.length ∧ s17 = .int .i64 i ∧ Hid (OB wx w.heap.size s4 (headL n (ts.take i)) ∧ Go4 w w.heap.size n A c 2 v t ts wx))
  case atStart => exact ⟨0, by omega, rfl, Lib.hid ⟨O2.out, G2.out⟩⟩
  case round =>
    clear O2 G2
    obtain ⟨i, hig, rfl, HG⟩ := hrel
    cases gk with
    | zero =>
      have e1 : decide ((i : Int) < (ts.length : Int)) = false := decide_eq_false (by omega)
      have e2 : decide (i < ts.length) = false := decide_eq_false (by omega)
      have hle0 := hle.out ts.length
      rw [List.take_of_length_le (Nat.le_refl _)] at hle0
      have c2 := HG.out.2.ev.c2
      have B0 := HG.out.2.below.size
      have G4 := Lib.hid HG.out.2
      obtain ⟨v5, w5, r5, o5, g5⟩ := ob_letter (show OB wr w.heap.size u4 (headL n ts) by have := HG.out.1; rwa [List.take_of_length_le (by omega)] at this) 2 103 (by decide) hle0 B0
      have R5 := Lib.hid r5
      have O5 := Lib.hid o5
      have G5 := Lib.hid (G4.out.gr HR.out g5)
      have c3 := G5.out.ev.c3
      have L1 := itoa_le v v0 v1
      have L2 := itoa_le t (by omega) (by omega)
      have B5 := G5.out.below.size
      have CV := Lib.hid (appendInt O5.out v v0 v1 (by simp only [List.length_append, List.length_cons, List.length_nil]; omega) B5 (HT.out.on G5.out.below))
      clear HG r5 o5 g5 hle HN
      go_wp2_with (at_builtin; refine wpList_append_two rfl (.tmp 36) (.tmp 41) 60 60 rfl _ _ _ rfl rfl R5.out ?_)
      refine CV.out.mono ?_
      rintro e w6 ⟨v6, rfl, o6, g6⟩
      have G6 := Lib.hid (G5.out.gr HR.out g6)
      have B6 := G6.out.below.size
      obtain ⟨v7, w7, r7, o7, g7⟩ := ob_space o6 (by simp only [List.length_append, List.length_cons, List.length_nil]; omega) B6
      have R7 := Lib.hid r7
      have G7 := Lib.hid (G6.out.gr HR.out g7)
      have B7 := G7.out.below.size
      have c4 := G7.out.ev.c4
      have CW := Lib.hid (appendInt o7 t (by omega) (by omega) (by simp only [List.length_append, List.length_cons, List.length_nil]; omega) B7 (HT.out.on G7.out.below))
      clear CV O5 G5 c2 c3 r7 o7 g7 o6 g6 R5
      go_wp2_with (at_builtin; refine wpList_append_two rfl (.tmp 47) (.tmp 48) 60 60 rfl _ _ _ rfl rfl R7.out ?_)
      refine CW.out.mono ?_
      rintro e w8 ⟨v8, rfl, o8, g8⟩
      have G8 := Lib.hid (G7.out.gr HR.out g8)
      have kc := o8.conv (by simp)
      rw [← HP.out] at kc
      clear CW R7 o8 g8 c4
      go_wp2_with fail
      go_ret2
      exact ⟨rfl, G8.out.below⟩
    | succ g =>
      have hlt : i < ts.length := by omega
      have hltz : (i : Int) < (ts.length : Int) := by omega
      obtain ⟨x, y, hxy⟩ : ∃ x y, ts[i]? = some (x, y) := ⟨_, _, List.getElem?_eq_getElem hlt⟩
      obtain ⟨b, o, hA, p0, p1⟩ := HG.out.2.at hxy
      obtain ⟨sx, sy⟩ := HN.out i x y hxy
      obtain ⟨v1', w1', v2', w2', v3', w3', v4', w4', r1, r2, r3, r4, q1, q2, o4, g4⟩ := round_made wr w.heap.size u4 (headL n (ts.take i)) x y HG.out.1 HG.out.2.below.size (hle.out i) sx sy
      have HO4 := Lib.hid (show OB w4' w.heap.size v4' (headL n (ts.take (i + 1))) by rw [headL_next hxy]; exact o4)
      have HG4 := Lib.hid (HG.out.2.gr HR.out g4)
      have R1 := Lib.hid r1
      have R2 := Lib.hid r2
      have R3 := Lib.hid r3
      have R4 := Lib.hid r4
      clear hxy r1 r2 r3 r4 o4 g4 HG
      subst hA
      go_wp2_with (first
        | (at_builtin; refine wpList_append_two rfl (.tmp 21) (.tmp 22) 60 60 rfl _ _ _ rfl rfl R1.out ?_)
        | (at_builtin; refine wpList_append_two rfl (.tmp 24) (.tmp 26) 60 9 rfl _ _ _ rfl rfl R2.out ?_)
        | (at_builtin; refine wpList_append_two rfl (.tmp 28) (.tmp 29) 60 60 rfl _ _ _ rfl rfl R3.out ?_)
        | (at_builtin; refine wpList_append_two rfl (.tmp 31) (.tmp 33) 60 9 rfl _ _ _ rfl rfl R4.out ?_))
      go_roundg g
      case rel => exact ⟨i + 1, by omega, by go_num, Lib.hid ⟨HO4.out, HG4.out⟩⟩
      case measure => omega

set_option maxHeartbeats 2000000 in
set_option maxRecDepth 100000 in
theorem linePrint3 (n : ByteArray) (A : Option Addr) (c : Nat) (v t : Int) (ts : Tags) (w : World) (hL : Laid w) (hr : RdT w A ts) (hS : Small n ts) (hm : mayB n ts 3 t = true)
    (v0 : -9223372036854775808 ≤ v) (v1 : v ≤ 9223372036854775807) :
    Calls Tryd.prog 20 #[evVal n A ts.length c 3 v t] w (PrintGood (printL n ts 3 v t) w) := by
  have G0 := Lib.hid (Go4.start w n A c 3 v t ts hr)
  have HR := Lib.hid hr
  have HS := Lib.hid hS
  have CM := Lib.hid (lineMay n A c 3 v t ts _ G0.out.rd hS)
  rw [hm] at CM
  have hmo := (may_open hm).2
  obtain ⟨t0, t1, h6⟩ := hmo
  have HT := Lib.hid (Lib.tabBelow_of_tabIs hL.tab)
  have hn := hS.1
  have HN : Hid (∀ (i : Nat) (x y : ByteArray), ts[i]? = some (x, y) → x.size ≤ 100 ∧ y.size ≤ 100) := Lib.hid (fun i x y h => hS.2.2 x y (List.mem_of_getElem? h))
  have HP : Hid (printL n ts 3 v t = headL n ts ++ [32] ++ [letter 3] ++ [32] ++ Lib.itoa v ++ [32] ++ Lib.itoa t) := Lib.hid rfl
  have hle : Hid (∀ i, (headL n (ts.take i)).length ≤ 5000) := Lib.hid (fun i => headL_le ⟨hS.1, by rw [List.length_take]; omega, fun x y h => hS.2.2 x y (List.mem_of_mem_take h)⟩)
  clear hm hr hS
  unfold evVal at CM ⊢
  go_enter Tryd.func20, Tryd.ntmps20
  go_wp2_with fail
  refine CM.out.mono ?_
  rintro e w1 ⟨rfl, hb1⟩
  have G1 := Lib.hid (show Go4 w w.heap.size n A c 3 v t ts w1 from ⟨G0.out.below.trans (hb1.mono G0.out.below.size), by unfold EvB; rw [hb1.block _ (lt_of_block G0.out.ev)]; exact G0.out.ev, HR.out.below (G0.out.below.trans (hb1.mono G0.out.below.size))⟩)
  have hz1 : w.heap.size ≤ w1.heap.size := G1.out.below.size
  obtain ⟨u, w2, r, o, g⟩ := ob_str (OB.nil w1 w.heap.size) n (by simp; omega) hz1
  have c0 := G1.out.ev.c0
  have R := Lib.hid r
  have G2 := Lib.hid (G1.out.gr HR.out g)
  have O2 := Lib.hid (show OB w2 w.heap.size u (headL n (ts.take 0)) by simpa [headL] using o)
  have c1 := G2.out.ev.c1
  clear hb1 G0 CM G1 r o g
  go_wp2_with (at_builtin; refine wpList_append_two rfl (.const (.slice none 0 0)) (.tmp 12) 60 9 rfl _ _ _ rfl rfl R.out ?_)
  clear R c0 c1
  go_loopg [4, 17] (ts.length) (fun g s4 s17 wx => ∃ i : Nat, i + g = ts.length ∧ s17 = .int .i64 i ∧ Hid (OB wx w.heap.size s4 (headL n (ts.take i)) ∧ Go4 w w.heap.size n A c 3 v t ts wx))
  case atStart => exact ⟨0, by omega, rfl, Lib.hid ⟨O2.out, G2.out⟩⟩
  case round =>
    clear O2 G2
    obtain ⟨i, hig, rfl, HG⟩ := hrel
    cases gk with
    | zero =>
      have e1 : decide ((i : Int) < (ts.length : Int)) = false := decide_eq_false (by omega)
      have e2 : decide (i < ts.length) = false := decide_eq_false (by omega)
      have hle0 := hle.out ts.length
      rw [List.take_of_length_le (Nat.le_refl _)] at hle0
      have c2 := HG.out.2.ev.c2
      have B0 := HG.out.2.below.size
      have G4 := Lib.hid HG.out.2
      obtain ⟨v5, w5, r5, o5, g5⟩ := ob_letter (show OB wr w.heap.size u4 (headL n ts) by have := HG.out.1; rwa [List.take_of_length_le (by omega)] at this) 3 104 (by decide) hle0 B0
      have R5 := Lib.hid r5
      have O5 := Lib.hid o5
      have G5 := Lib.hid (G4.out.gr HR.out g5)
      have c3 := G5.out.ev.c3
      have L1 := itoa_le v v0 v1
      have L2 := itoa_le t (by omega) (by omega)
      have B5 := G5.out.below.size
      have CV := Lib.hid (appendInt O5.out v v0 v1 (by simp only [List.length_append, List.length_cons, List.length_nil]; omega) B5 (HT.out.on G5.out.below))
      clear HG r5 o5 g5 hle HN
      go_wp2_with (at_builtin; refine wpList_append_two rfl (.tmp 36) (.tmp 41) 60 60 rfl _ _ _ rfl rfl R5.out ?_)
      refine CV.out.mono ?_
      rintro e w6 ⟨v6, rfl, o6, g6⟩
      have G6 := Lib.hid (G5.out.gr HR.out g6)
      have B6 := G6.out.below.size
      obtain ⟨v7, w7, r7, o7, g7⟩ := ob_space o6 (by simp only [List.length_append, List.length_cons, List.length_nil]; omega) B6
      have R7 := Lib.hid r7
      have G7 := Lib.hid (G6.out.gr HR.out g7)
      have B7 := G7.out.below.size
      have c4 := G7.out.ev.c4
      have CW := Lib.hid (appendInt o7 t (by omega) (by omega) (by simp only [List.length_append, List.length_cons, List.length_nil]; omega) B7 (HT.out.on G7.out.below))
      clear CV O5 G5 c2 c3 r7 o7 g7 o6 g6 R5
      go_wp2_with (at_builtin; refine wpList_append_two rfl (.tmp 47) (.tmp 48) 60 60 rfl _ _ _ rfl rfl R7.out ?_)
      refine CW.out.mono ?_
      rintro e w8 ⟨v8, rfl, o8, g8⟩
      have G8 := Lib.hid (G7.out.gr HR.out g8)
      have kc := o8.conv (by simp)
      rw [← HP.out] at kc
      clear CW R7 o8 g8 c4
      go_wp2_with fail
      go_ret2
      exact ⟨rfl, G8.out.below⟩
    | succ g =>
      have hlt : i < ts.length := by omega
      have hltz : (i : Int) < (ts.length : Int) := by omega
      obtain ⟨x, y, hxy⟩ : ∃ x y, ts[i]? = some (x, y) := ⟨_, _, List.getElem?_eq_getElem hlt⟩
      obtain ⟨b, o, hA, p0, p1⟩ := HG.out.2.at hxy
      obtain ⟨sx, sy⟩ := HN.out i x y hxy
      obtain ⟨v1', w1', v2', w2', v3', w3', v4', w4', r1, r2, r3, r4, q1, q2, o4, g4⟩ := round_made wr w.heap.size u4 (headL n (ts.take i)) x y HG.out.1 HG.out.2.below.size (hle.out i) sx sy
      have HO4 := Lib.hid (show OB w4' w.heap.size v4' (headL n (ts.take (i + 1))) by rw [headL_next hxy]; exact o4)
      have HG4 := Lib.hid (HG.out.2.gr HR.out g4)
      have R1 := Lib.hid r1
      have R2 := Lib.hid r2
      have R3 := Lib.hid r3
      have R4 := Lib.hid r4
      clear hxy r1 r2 r3 r4 o4 g4 HG
      subst hA
      go_wp2_with (first
        | (at_builtin; refine wpList_append_two rfl (.tmp 21) (.tmp 22) 60 60 rfl _ _ _ rfl rfl R1.out ?_)
        | (at_builtin; refine wpList_append_two rfl (.tmp 24) (.tmp 26) 60 9 rfl _ _ _ rfl rfl R2.out ?_)
        | (at_builtin; refine wpList_append_two rfl (.tmp 28) (.tmp 29) 60 60 rfl _ _ _ rfl rfl R3.out ?_)
        | (at_builtin; refine wpList_append_two rfl (.tmp 31) (.tmp 33) 60 9 rfl _ _ _ rfl rfl R4.out ?_))
      go_roundg g
      case rel => exact ⟨i + 1, by omega, by go_num, Lib.hid ⟨HO4.out, HG4.out⟩⟩
      case measure => omega
theorem linePrint (n : ByteArray) (A : Option Addr) (c : Nat) (k v t : Int) (ts : Tags) (w : World) (hL : Laid w) (hr : RdT w A ts) (hS : Small n ts) (hm : mayB n ts k t = true)
    (v0 : -9223372036854775808 ≤ v) (v1 : v ≤ 9223372036854775807) :
    Calls Tryd.prog 20 #[evVal n A ts.length c k v t] w (PrintGood (printL n ts k v t) w) := by
  rcases (may_open hm).1 with rfl | rfl | rfl
  · exact linePrint1 n A c v t ts w hL hr hS hm v0 v1
  · exact linePrint2 n A c v t ts w hL hr hS hm v0 v1
  · exact linePrint3 n A c v t ts w hL hr hS hm v0 v1
end Go.Proofs.YtfbccngbgkddlaaDoor
