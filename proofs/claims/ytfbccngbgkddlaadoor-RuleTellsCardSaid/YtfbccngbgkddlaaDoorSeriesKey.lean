/-
  Layer 5 (series): series.Key: an event's series' key, or Canon's errors.
-/
import Derived.Test.YtfbccngbgkddlaaDoorSeriesCanon
import Derived.Test.YtfbccngbgkddlaaDoorLinePrint
namespace Go.Proofs.YtfbccngbgkddlaaDoor
open Go.ChangeShapes Go.WideShapes Go.ChangeAt Go.RowKit
set_option linter.unusedVariables false

def KeyBad (w : World) (code : Int) (e : Ending) (w' : World) : Prop := e = .returned (.tuple #[.string ⟨#[]⟩, .iface 35 (.int .i64 code)]) ∧ Below w.heap.size w w'
def KeyGood (w : World) (l : List UInt8) (e : Ending) (w' : World) : Prop := e = .returned (.tuple #[.string ⟨l.toArray⟩, .nilIface]) ∧ Below w.heap.size w w'

/-- An error of Canon's is handed on. -/
theorem keyBad (n : ByteArray) (A : Option Addr) (c : Nat) (k v t : Int) (ts : Tags) (w : World) (code : Int)
    (C : Calls Tryd.prog 19 #[evVal n A ts.length c k v t] (w.alloc (.cells #[.string n, .slice A ts.length c, .int .i64 k, .int .i64 v, .int .i64 t] 25)) (CanonBad (w.alloc (.cells #[.string n, .slice A ts.length c, .int .i64 k, .int .i64 v, .int .i64 t] 25)) code)) :
    Calls Tryd.prog 15 #[evVal n A ts.length c k v t] w (KeyBad w code) := by
  have C := Lib.hid C
  have hE : EvB (w.alloc (.cells #[.string n, .slice A ts.length c, .int .i64 k, .int .i64 v, .int .i64 t] 25)) w.heap.size n A ts.length c k v t := heap_alloc_new w _
  have c0 := hE.c0
  have c1 := hE.c1
  have c2 := hE.c2
  have c3 := hE.c3
  have c4 := hE.c4
  clear hE
  unfold evVal at C ⊢
  go_enter Tryd.func15, Tryd.ntmps15
  go_wp2_with fail
  refine C.out.mono ?_
  rintro e w1 ⟨rfl, hb⟩
  have HB := Lib.hid ((below_new w _).trans (hb.mono (by simp)))
  clear hb C c0 c1 c2 c3 c4
  unfold evZero evVal
  go_wp2_with fail
  go_ret2
  exact ⟨rfl, HB.out.alloc HB.out.size _⟩

set_option maxHeartbeats 1000000 in
theorem keyGood (n : ByteArray) (A : Option Addr) (c : Nat) (k v t : Int) (ts : Tags) (w : World) (hL : Laid w) (hr : RdT w A ts) (hS : Small n ts) (hk : keyErr n ts k t = none)
    (v0 : -9223372036854775808 ≤ v) (v1 : v ≤ 9223372036854775807) :
    Calls Tryd.prog 15 #[evVal n A ts.length c k v t] w (KeyGood w (keyL n ts)) := by
  obtain ⟨hm, hri⟩ := keyErr_none hk
  have hms : mayB n (sortT ts) k t = true := by rw [may_perm (sortT_perm ts)]; exact hm
  have C := Lib.hid (seriesCanon n A c k v t ts (w.alloc (.cells #[.string n, .slice A ts.length c, .int .i64 k, .int .i64 v, .int .i64 t] 25)) (hr.alloc _) hS hm true hri)
  have HM := Lib.hid hms
  have HS := Lib.hid (small_of_may hms)
  have HLd := Lib.hid (hL.alloc (.cells #[.string n, .slice A ts.length c, .int .i64 k, .int .i64 v, .int .i64 t] 25))
  have hw : wordB n = true ∧ (sortT ts).all tagOk = true := by
    have h := hms
    unfold mayB at h
    simp only [Bool.and_eq_true] at h
    exact ⟨h.1.1.1, h.1.2⟩
  have HC := Lib.hid (fun w' => strCut ⟨(printL n (sortT ts) k v t).toArray⟩ (keyL n ts) (letter k :: 32 :: (Lib.itoa v ++ 32 :: Lib.itoa t)) w' (by simp [printL, keyL]) (head_no hw.1 hw.2)
    (by have := printL_le hms v0 v1; simpa [ByteArray.size] using Nat.le_trans this (by omega)))
  have hE : EvB (w.alloc (.cells #[.string n, .slice A ts.length c, .int .i64 k, .int .i64 v, .int .i64 t] 25)) w.heap.size n A ts.length c k v t := heap_alloc_new w _
  have c0 := hE.c0
  have c1 := hE.c1
  have c2 := hE.c2
  have c3 := hE.c3
  have c4 := hE.c4
  clear hE hm hri hms hk hS hr hL hw
  generalize keyL n ts = l at HC ⊢
  unfold evVal at C ⊢
  go_enter Tryd.func15, Tryd.ntmps15
  go_wp2_with fail
  refine C.out.mono ?_
  rintro e w1 ⟨A1, d, rfl, r1, hb⟩
  have HB := Lib.hid ((below_new w _).trans (hb.mono (by simp)))
  have HL1 := Lib.hid (HLd.out.below hb)
  have R1 := Lib.hid r1
  clear hb r1 HLd C c0 c1 c2 c3 c4
  generalize sortT ts = us at *
  unfold evVal
  have hE : EvB (w1.alloc (.cells #[.string n, .slice A1 us.length d, .int .i64 k, .int .i64 v, .int .i64 t] 25)) w1.heap.size n A1 us.length d k v t := heap_alloc_new w1 _
  have c0 := hE.c0
  have c1 := hE.c1
  have c2 := hE.c2
  have c3 := hE.c3
  have c4 := hE.c4
  have HB2 := Lib.hid (HB.out.alloc HB.out.size (.cells #[.string n, .slice A1 us.length d, .int .i64 k, .int .i64 v, .int .i64 t] 25))
  have CP := Lib.hid (linePrint n A1 d k v t us (w1.alloc (.cells #[.string n, .slice A1 us.length d, .int .i64 k, .int .i64 v, .int .i64 t] 25)) (HL1.out.alloc _) (R1.out.alloc _) HS.out HM.out v0 v1)
  generalize printL n us k v t = p at *
  unfold evVal at CP
  clear hE HB HL1 R1
  go_wp2_with fail
  refine CP.out.mono ?_
  rintro e w2 ⟨rfl, hb⟩
  have HB3 := Lib.hid (HB2.out.trans (hb.mono HB2.out.size))
  clear hb HB2 CP c0 c1 c2 c3 c4
  go_wp2_with fail
  refine (HC.out _).mono ?_
  rintro e w3 ⟨y, rfl, hb⟩
  have HB4 := Lib.hid (HB3.out.trans (hb.mono HB3.out.size))
  clear hb HB3 HC
  go_wp2_with fail
  go_ret2
  exact ⟨rfl, HB4.out⟩

def KeyPost (w : World) (n : ByteArray) (ts : Tags) (r : Option Int) (e : Ending) (w' : World) : Prop :=
  match r with
  | some code => KeyBad w code e w'
  | none => KeyGood w (keyL n ts) e w'
theorem seriesKey (n : ByteArray) (A : Option Addr) (c : Nat) (k v t : Int) (ts : Tags) (w : World) (hL : Laid w) (hr : RdT w A ts) (hS : Small n ts)
    (v0 : -9223372036854775808 ≤ v) (v1 : v ≤ 9223372036854775807) :
    Calls Tryd.prog 15 #[evVal n A ts.length c k v t] w (KeyPost w n ts (keyErr n ts k t)) := by
  rcases hm : mayB n ts k t with _ | _
  · have hk : keyErr n ts k t = some 1 := by unfold keyErr; rw [hm]; rfl
    rw [hk]
    exact keyBad n A c k v t ts w 1 (canonArg n A c k v t ts _ (hr.alloc _) hS hm)
  rcases hri : riseB (sortT ts) with _ | _
  · have hk : keyErr n ts k t = some 5 := by unfold keyErr; rw [hm, hri]; rfl
    rw [hk]
    exact keyBad n A c k v t ts w 5 (seriesCanon n A c k v t ts _ (hr.alloc _) hS hm false hri)
  · have hk : keyErr n ts k t = none := by unfold keyErr; rw [hm, hri]; rfl
    rw [hk]
    exact keyGood n A c k v t ts w hL hr hS hk v0 v1
end Go.Proofs.YtfbccngbgkddlaaDoor
