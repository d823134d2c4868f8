/-
  Layer 4: the document's own Print.
-/
import Derived.Test.YtndpaafkipanmaaDoorLineHead
import Derived.Test.YtndpaafkipanmaaDoorLineRef
import Derived.Deep.RegionHeld3
namespace Go.Proofs.YtndpaafkipanmaaDoor
open Go.ChangeShapes Go.WideShapes Go.ChangeAt Go.RowKit
set_option linter.unusedVariables false

def letter (k : Int) : UInt8 := if k = 1 then 99 else if k = 2 then 103 else 104
def printL (n : ByteArray) (ts : Tags) (k v t : Int) : List UInt8 := headL n ts ++ [32] ++ [letter k] ++ [32] ++ Lib.itoa v ++ [32] ++ Lib.itoa t
theorem tagL_len (x y : ByteArray) : (tagL (x, y)).length = x.size + y.size + 2 := by
  have e1 : x.data.toList.length = x.size := by simp
  have e2 : y.data.toList.length = y.size := by simp
  unfold tagL
  simp only [List.cons_append, List.length_cons, List.length_append]
  rw [e1, e2]
  omega
theorem headL_le {n : ByteArray} {ts : Tags} (h : Small n ts) : (headL n ts).length ≤ 5000 := by
  obtain ⟨h0, h1, h2⟩ := h
  have key : ∀ l : Tags, (∀ x y, (x, y) ∈ l → x.size ≤ 100 ∧ y.size ≤ 100) → (l.flatMap tagL).length ≤ l.length * 202 := by
    intro l
    induction l with
    | nil => intro _; simp
    | cons a r ih =>
      intro hl
      have := ih (fun x y hxy => hl x y (by simp [hxy]))
      obtain ⟨x, y⟩ := a
      have hx := hl x y (by simp)
      have hx1 := hx.1
      have hx2 := hx.2
      rw [List.flatMap_cons, List.length_append, List.length_cons, tagL_len]
      omega
  have := key ts h2
  unfold headL
  rw [List.length_append]
  have e : n.data.toList.length = n.size := by simp
  omega
theorem itoa_le (v : Int) (h0 : -9223372036854775808 ≤ v) (h1 : v ≤ 9223372036854775807) : (Lib.itoa v).length ≤ 30 := by
  unfold Lib.itoa
  split
  · have := nDigits_le v.natAbs (by omega); simp only [List.length_cons]; omega
  · have := nDigits_le v.toNat (by omega); omega

set_option maxHeartbeats 3000000 in
set_option maxRecDepth 100000 in
theorem refPrint1 (n : ByteArray) (A : Option Addr) (c : Nat) (v t : Int) (ts : Tags) (w : World) (hr : RdT w A ts) (hS : Small n ts)
    (v0 : -9223372036854775808 ≤ v) (v1 : v ≤ 9223372036854775807) (t0 : 0 ≤ t) (t1 : t ≤ 1099511627776) :
    Calls Tryd.prog 15 #[evVal n A ts.length c 1 v t] w (SB (printL n ts 1 v t) w) := by
  have CV := Lib.hid (fun w' => refNumber v v0 v1 w')
  have CT := Lib.hid (fun w' => refNumber t (by omega) (by omega) w')
  have G0 := Go4.start w n A c 1 v t ts hr
  have CH := Lib.hid (fun w' (h : RdT w' A ts) => refHead n A c 1 v t ts w' h hS)
  unfold evVal at CH ⊢
  have HP : Hid (printL n ts 1 v t = headL n ts ++ [32] ++ [99] ++ [32] ++ Lib.itoa v ++ [32] ++ Lib.itoa t) := Lib.hid rfl
  have sH : (⟨(headL n ts).toArray⟩ : ByteArray).size ≤ 5000 := by simpa [ByteArray.size] using headL_le hS
  have sV : (⟨(Lib.itoa v).toArray⟩ : ByteArray).size ≤ 30 := by simpa [ByteArray.size] using itoa_le v v0 v1
  have sT : (⟨(Lib.itoa t).toArray⟩ : ByteArray).size ≤ 30 := by simpa [ByteArray.size] using itoa_le t (by omega) (by omega)
  have b32 : (⟨#[32]⟩ : ByteArray).size = 1 := rfl
  have bL : (⟨#[99]⟩ : ByteArray).size = 1 := rfl
  obtain ⟨H, hH⟩ : ∃ H : ByteArray, ⟨(headL n ts).toArray⟩ = H := ⟨_, rfl⟩
  obtain ⟨V, hV⟩ : ∃ V : ByteArray, ⟨(Lib.itoa v).toArray⟩ = V := ⟨_, rfl⟩
  obtain ⟨T, hT⟩ : ∃ T : ByteArray, ⟨(Lib.itoa t).toArray⟩ = T := ⟨_, rfl⟩
  have CH' : Hid (∀ w' (h : RdT w' A ts), Calls Tryd.prog 24 #[.agg #[.string n, .slice A ts.length c, .int .i64 1, .int .i64 v, .int .i64 t]] w' (fun e w2 => e = .returned (.string H) ∧ Below w'.heap.size w' w2)) := Lib.hid (fun w' h => by rw [← hH]; exact CH.out w' h)
  have CV' : Hid (∀ w', Calls Tryd.prog 25 #[.int .i64 v] w' (fun e w2 => e = .returned (.string V) ∧ Below w'.heap.size w' w2)) := Lib.hid (fun w' => by rw [← hV]; exact CV.out w')
  have CT' : Hid (∀ w', Calls Tryd.prog 25 #[.int .i64 t] w' (fun e w2 => e = .returned (.string T) ∧ Below w'.heap.size w' w2)) := Lib.hid (fun w' => by rw [← hT]; exact CT.out w')
  rw [hH] at sH
  rw [hV] at sV
  rw [hT] at sT
  have HH := Lib.hid hH
  have HV := Lib.hid hV
  have HT := Lib.hid hT
  clear hH hV hT CH CV CT
  have k1 := fun w' : World => run_string_add_sum (P := Tryd.prog) w' H ⟨#[32]⟩ (by omega)
  have k2 := fun w' : World => run_string_add_sum (P := Tryd.prog) w' (H ++ ⟨#[32]⟩) ⟨#[99]⟩ (by simp only [ByteArray.size_append]; omega)
  have k3 := fun w' : World => run_string_add_sum (P := Tryd.prog) w' (H ++ ⟨#[32]⟩ ++ ⟨#[99]⟩) ⟨#[32]⟩ (by simp only [ByteArray.size_append]; omega)
  have k4 := fun w' : World => run_string_add_sum (P := Tryd.prog) w' (H ++ ⟨#[32]⟩ ++ ⟨#[99]⟩ ++ ⟨#[32]⟩) V (by simp only [ByteArray.size_append]; omega)
  have k5 := fun w' : World => run_string_add_sum (P := Tryd.prog) w' (H ++ ⟨#[32]⟩ ++ ⟨#[99]⟩ ++ ⟨#[32]⟩ ++ V) ⟨#[32]⟩ (by simp only [ByteArray.size_append]; omega)
  have k6 := fun w' : World => run_string_add_sum (P := Tryd.prog) w' (H ++ ⟨#[32]⟩ ++ ⟨#[99]⟩ ++ ⟨#[32]⟩ ++ V ++ ⟨#[32]⟩) T (by simp only [ByteArray.size_append]; omega)
  have qw : IntKind.i64.wrap 0 = 0 := by decide
  have sz3 : (⟨#[99, 103, 104]⟩ : ByteArray).size = 3 := rfl
  have ex : (⟨#[99, 103, 104]⟩ : ByteArray).extract 0 1 = ⟨#[99]⟩ := by decide +kernel
  clear b32 bL sH sV sT
  go_enter Tryd.func15, Tryd.ntmps15
  go_wp2_with fail
  generalize w.alloc (.cells #[.string n, .slice A ts.length c, .int .i64 1, .int .i64 v, .int .i64 t] 25) = w1 at G0 ⊢
  have c0 := G0.ev.c0
  have c1 := G0.ev.c1
  have c2 := G0.ev.c2
  have c3 := G0.ev.c3
  have c4 := G0.ev.c4
  have hz1 := lt_of_block G0.ev
  have HR := Lib.hid (show RdT w1.drew A ts from G0.rd.keep fun b o x hc => hc)
  have HG := Lib.hid G0
  clear G0
  go_region_held3 (fun w' => w'.cell? ⟨w.heap.size, 0, none⟩ = some (.string n) ∧ w'.cell? ⟨w.heap.size, 1, none⟩ = some (.slice A ts.length c) ∧ w'.cell? ⟨w.heap.size, 2, none⟩ = some (.int .i64 1) ∧ w'.cell? ⟨w.heap.size, 3, none⟩ = some (.int .i64 v) ∧ w'.cell? ⟨w.heap.size, 4, none⟩ = some (.int .i64 t))
    (first
      | go_keep
      | (go_split_ands
         refine ⟨?_, ?_, ?_, ?_, ?_⟩ <;> (first | exact (hb9.cell (World.block_lt_of_cell? _ _ ‹_›)).trans ‹_› | exact (hb8.cell (World.block_lt_of_cell? _ _ ‹_›)).trans ‹_› | exact (hb7.cell (World.block_lt_of_cell? _ _ ‹_›)).trans ‹_› | exact (hb7.cell hz1).trans c0 | exact (hb7.cell hz1).trans c1 | exact (hb7.cell hz1).trans c2 | exact (hb7.cell hz1).trans c3 | exact (hb7.cell hz1).trans c4)))
    (first
      | ((go_at_call 24; refine (CH'.out _ HR.out).mono ?_); rintro e w2 ⟨rfl, hb7⟩)
      | ((go_at_call 25; with_reducible refine (CV'.out _).mono ?_); rintro e w2 ⟨rfl, hb8⟩)
      | ((go_at_call 25; with_reducible refine (CT'.out _).mono ?_); rintro e w2 ⟨rfl, hb9⟩))
  go_wp2_with fail
  go_ret
  refine ⟨?_, ?_⟩
  · rw [HP.out, ← HH.out, ← HV.out, ← HT.out, ← str_app, ← str_app, ← str_app, ← str_app, ← str_app, ← str_app]
    rfl
  · have b0 : Below w.heap.size w w1.drew := ⟨HG.out.below.os, HG.out.below.tape, HG.out.below.output, HG.out.below.size, HG.out.below.block⟩
    have b1 := b0.trans (hb7.mono b0.size)
    have b2 := b1.trans (hb8.mono b1.size)
    exact b2.trans (hb9.mono b2.size)

set_option maxHeartbeats 3000000 in
set_option maxRecDepth 100000 in
theorem refPrint2 (n : ByteArray) (A : Option Addr) (c : Nat) (v t : Int) (ts : Tags) (w : World) (hr : RdT w A ts) (hS : Small n ts)
    (v0 : -9223372036854775808 ≤ v) (v1 : v ≤ 9223372036854775807) (t0 : 0 ≤ t) (t1 : t ≤ 1099511627776) :
    Calls Tryd.prog 15 #[evVal n A ts.length c 2 v t] w (SB (printL n ts 2 v t) w) := by
  have CV := Lib.hid (fun w' => refNumber v v0 v1 w')
  have CT := Lib.hid (fun w' => refNumber t (by omega) (by omega) w')
  have G0 := Go4.start w n A c 2 v t ts hr
  have CH := Lib.hid (fun w' (h : RdT w' A ts) => refHead n A c 2 v t ts w' h hS)
  unfold evVal at CH ⊢
  have HP : Hid (printL n ts 2 v t = headL n ts ++ [32] ++ [103] ++ [32] ++ Lib.itoa v ++ [32] ++ Lib.itoa t) := Lib.hid rfl
  have sH : (⟨(headL n ts).toArray⟩ : ByteArray).size ≤ 5000 := by simpa [ByteArray.size] using headL_le hS
  have sV : (⟨(Lib.itoa v).toArray⟩ : ByteArray).size ≤ 30 := by simpa [ByteArray.size] using itoa_le v v0 v1
  have sT : (⟨(Lib.itoa t).toArray⟩ : ByteArray).size ≤ 30 := by simpa [ByteArray.size] using itoa_le t (by omega) (by omega)
  have b32 : (⟨#[32]⟩ : ByteArray).size = 1 := rfl
  have bL : (⟨#[103]⟩ : ByteArray).size = 1 := rfl
  obtain ⟨H, hH⟩ : ∃ H : ByteArray, ⟨(headL n ts).toArray⟩ = H := ⟨_, rfl⟩
  obtain ⟨V, hV⟩ : ∃ V : ByteArray, ⟨(Lib.itoa v).toArray⟩ = V := ⟨_, rfl⟩
  obtain ⟨T, hT⟩ : ∃ T : ByteArray, ⟨(Lib.itoa t).toArray⟩ = T := ⟨_, rfl⟩
  have CH' : Hid (∀ w' (h : RdT w' A ts), Calls Tryd.prog 24 #[.agg #[.string n, .slice A ts.length c, .int .i64 2, .int .i64 v, .int .i64 t]] w' (fun e w2 => e = .returned (.string H) ∧ Below w'.heap.size w' w2)) := Lib.hid (fun w' h => by rw [← hH]; exact CH.out w' h)
  have CV' : Hid (∀ w', Calls Tryd.prog 25 #[.int .i64 v] w' (fun e w2 => e = .returned (.string V) ∧ Below w'.heap.size w' w2)) := Lib.hid (fun w' => by rw [← hV]; exact CV.out w')
  have CT' : Hid (∀ w', Calls Tryd.prog 25 #[.int .i64 t] w' (fun e w2 => e = .returned (.string T) ∧ Below w'.heap.size w' w2)) := Lib.hid (fun w' => by rw [← hT]; exact CT.out w')
  rw [hH] at sH
  rw [hV] at sV
  rw [hT] at sT
  have HH := Lib.hid hH
  have HV := Lib.hid hV
  have HT := Lib.hid hT
  clear hH hV hT CH CV CT
  have k1 := fun w' : World => run_string_add_sum (P := Tryd.prog) w' H ⟨#[32]⟩ (by omega)
  have k2 := fun w' : World => run_string_add_sum (P := Tryd.prog) w' (H ++ ⟨#[32]⟩) ⟨#[103]⟩ (by simp only [ByteArray.size_append]; omega)
  have k3 := fun w' : World => run_string_add_sum (P := Tryd.prog) w' (H ++ ⟨#[32]⟩ ++ ⟨#[103]⟩) ⟨#[32]⟩ (by simp only [ByteArray.size_append]; omega)
  have k4 := fun w' : World => run_string_add_sum (P := Tryd.prog) w' (H ++ ⟨#[32]⟩ ++ ⟨#[103]⟩ ++ ⟨#[32]⟩) V (by simp only [ByteArray.size_append]; omega)
  have k5 := fun w' : World => run_string_add_sum (P := Tryd.prog) w' (H ++ ⟨#[32]⟩ ++ ⟨#[103]⟩ ++ ⟨#[32]⟩ ++ V) ⟨#[32]⟩ (by simp only [ByteArray.size_append]; omega)
  have k6 := fun w' : World => run_string_add_sum (P := Tryd.prog) w' (H ++ ⟨#[32]⟩ ++ ⟨#[103]⟩ ++ ⟨#[32]⟩ ++ V ++ ⟨#[32]⟩) T (by simp only [ByteArray.size_append]; omega)
  have qw : IntKind.i64.wrap 1 = 1 := by decide
  have sz3 : (⟨#[99, 103, 104]⟩ : ByteArray).size = 3 := rfl
  have ex : (⟨#[99, 103, 104]⟩ : ByteArray).extract 1 2 = ⟨#[103]⟩ := by decide +kernel
  clear b32 bL sH sV sT
  go_enter Tryd.func15, Tryd.ntmps15
  go_wp2_with fail
  generalize w.alloc (.cells #[.string n, .slice A ts.length c, .int .i64 2, .int .i64 v, .int .i64 t] 25) = w1 at G0 ⊢
  have c0 := G0.ev.c0
  have c1 := G0.ev.c1
  have c2 := G0.ev.c2
  have c3 := G0.ev.c3
  have c4 := G0.ev.c4
  have hz1 := lt_of_block G0.ev
  have HR := Lib.hid (show RdT w1.drew A ts from G0.rd.keep fun b o x hc => hc)
  have HG := Lib.hid G0
  clear G0
  go_region_held3 (fun w' => w'.cell? ⟨w.heap.size, 0, none⟩ = some (.string n) ∧ w'.cell? ⟨w.heap.size, 1, none⟩ = some (.slice A ts.length c) ∧ w'.cell? ⟨w.heap.size, 2, none⟩ = some (.int .i64 2) ∧ w'.cell? ⟨w.heap.size, 3, none⟩ = some (.int .i64 v) ∧ w'.cell? ⟨w.heap.size, 4, none⟩ = some (.int .i64 t))
    (first
      | go_keep
      | (go_split_ands
         refine ⟨?_, ?_, ?_, ?_, ?_⟩ <;> (first | exact (hb9.cell (World.block_lt_of_cell? _ _ ‹_›)).trans ‹_› | exact (hb8.cell (World.block_lt_of_cell? _ _ ‹_›)).trans ‹_› | exact (hb7.cell (World.block_lt_of_cell? _ _ ‹_›)).trans ‹_› | exact (hb7.cell hz1).trans c0 | exact (hb7.cell hz1).trans c1 | exact (hb7.cell hz1).trans c2 | exact (hb7.cell hz1).trans c3 | exact (hb7.cell hz1).trans c4)))
    (first
      | ((go_at_call 24; refine (CH'.out _ HR.out).mono ?_); rintro e w2 ⟨rfl, hb7⟩)
      | ((go_at_call 25; with_reducible refine (CV'.out _).mono ?_); rintro e w2 ⟨rfl, hb8⟩)
      | ((go_at_call 25; with_reducible refine (CT'.out _).mono ?_); rintro e w2 ⟨rfl, hb9⟩))
  go_wp2_with fail
  go_ret
  refine ⟨?_, ?_⟩
  · rw [HP.out, ← HH.out, ← HV.out, ← HT.out, ← str_app, ← str_app, ← str_app, ← str_app, ← str_app, ← str_app]
    rfl
  · have b0 : Below w.heap.size w w1.drew := ⟨HG.out.below.os, HG.out.below.tape, HG.out.below.output, HG.out.below.size, HG.out.below.block⟩
    have b1 := b0.trans (hb7.mono b0.size)
    have b2 := b1.trans (hb8.mono b1.size)
    exact b2.trans (hb9.mono b2.size)

set_option maxHeartbeats 3000000 in
set_option maxRecDepth 100000 in
theorem refPrint3 (n : ByteArray) (A : Option Addr) (c : Nat) (v t : Int) (ts : Tags) (w : World) (hr : RdT w A ts) (hS : Small n ts)
    (v0 : -9223372036854775808 ≤ v) (v1 : v ≤ 9223372036854775807) (t0 : 0 ≤ t) (t1 : t ≤ 1099511627776) :
    Calls Tryd.prog 15 #[evVal n A ts.length c 3 v t] w (SB (printL n ts 3 v t) w) := by
  have CV := Lib.hid (fun w' => refNumber v v0 v1 w')
  have CT := Lib.hid (fun w' => refNumber t (by omega) (by omega) w')
  have G0 := Go4.start w n A c 3 v t ts hr
  have CH := Lib.hid (fun w' (h : RdT w' A ts) => refHead n A c 3 v t ts w' h hS)
  unfold evVal at CH ⊢
  have HP : Hid (printL n ts 3 v t = headL n ts ++ [32] ++ [104] ++ [32] ++ Lib.itoa v ++ [32] ++ Lib.itoa t) := Lib.hid rfl
  have sH : (⟨(headL n ts).toArray⟩ : ByteArray).size ≤ 5000 := by simpa [ByteArray.size] using headL_le hS
  have sV : (⟨(Lib.itoa v).toArray⟩ : ByteArray).size ≤ 30 := by simpa [ByteArray.size] using itoa_le v v0 v1
  have sT : (⟨(Lib.itoa t).toArray⟩ : ByteArray).size ≤ 30 := by simpa [ByteArray.size] using itoa_le t (by omega) (by omega)
  have b32 : (⟨#[32]⟩ : ByteArray).size = 1 := rfl
  have bL : (⟨#[104]⟩ : ByteArray).size = 1 := rfl
  obtain ⟨H, hH⟩ : ∃ H : ByteArray, ⟨(headL n ts).toArray⟩ = H := ⟨_, rfl⟩
  obtain ⟨V, hV⟩ : ∃ V : ByteArray, ⟨(Lib.itoa v).toArray⟩ = V := ⟨_, rfl⟩
  obtain ⟨T, hT⟩ : ∃ T : ByteArray, ⟨(Lib.itoa t).toArray⟩ = T := ⟨_, rfl⟩
  have CH' : Hid (∀ w' (h : RdT w' A ts), Calls Tryd.prog 24 #[.agg #[.string n, .slice A ts.length c, .int .i64 3, .int .i64 v, .int .i64 t]] w' (fun e w2 => e = .returned (.string H) ∧ Below w'.heap.size w' w2)) := Lib.hid (fun w' h => by rw [← hH]; exact CH.out w' h)
  have CV' : Hid (∀ w', Calls Tryd.prog 25 #[.int .i64 v] w' (fun e w2 => e = .returned (.string V) ∧ Below w'.heap.size w' w2)) := Lib.hid (fun w' => by rw [← hV]; exact CV.out w')
  have CT' : Hid (∀ w', Calls Tryd.prog 25 #[.int .i64 t] w' (fun e w2 => e = .returned (.string T) ∧ Below w'.heap.size w' w2)) := Lib.hid (fun w' => by rw [← hT]; exact CT.out w')
  rw [hH] at sH
  rw [hV] at sV
  rw [hT] at sT
  have HH := Lib.hid hH
  have HV := Lib.hid hV
  have HT := Lib.hid hT
  clear hH hV hT CH CV CT
  have k1 := fun w' : World => run_string_add_sum (P := Tryd.prog) w' H ⟨#[32]⟩ (by omega)
  have k2 := fun w' : World => run_string_add_sum (P := Tryd.prog) w' (H ++ ⟨#[32]⟩) ⟨#[104]⟩ (by simp only [ByteArray.size_append]; omega)
  have k3 := fun w' : World => run_string_add_sum (P := Tryd.prog) w' (H ++ ⟨#[32]⟩ ++ ⟨#[104]⟩) ⟨#[32]⟩ (by simp only [ByteArray.size_append]; omega)
  have k4 := fun w' : World => run_string_add_sum (P := Tryd.prog) w' (H ++ ⟨#[32]⟩ ++ ⟨#[104]⟩ ++ ⟨#[32]⟩) V (by simp only [ByteArray.size_append]; omega)
  have k5 := fun w' : World => run_string_add_sum (P := Tryd.prog) w' (H ++ ⟨#[32]⟩ ++ ⟨#[104]⟩ ++ ⟨#[32]⟩ ++ V) ⟨#[32]⟩ (by simp only [ByteArray.size_append]; omega)
  have k6 := fun w' : World => run_string_add_sum (P := Tryd.prog) w' (H ++ ⟨#[32]⟩ ++ ⟨#[104]⟩ ++ ⟨#[32]⟩ ++ V ++ ⟨#[32]⟩) T (by simp only [ByteArray.size_append]; omega)
  have qw : IntKind.i64.wrap 2 = 2 := by decide
  have sz3 : (⟨#[99, 103, 104]⟩ : ByteArray).size = 3 := rfl
  have ex : (⟨#[99, 103, 104]⟩ : ByteArray).extract 2 3 = ⟨#[104]⟩ := by decide +kernel
  clear b32 bL sH sV sT
  go_enter Tryd.func15, Tryd.ntmps15
  go_wp2_with fail
  generalize w.alloc (.cells #[.string n, .slice A ts.length c, .int .i64 3, .int .i64 v, .int .i64 t] 25) = w1 at G0 ⊢
  have c0 := G0.ev.c0
  have c1 := G0.ev.c1
  have c2 := G0.ev.c2
  have c3 := G0.ev.c3
  have c4 := G0.ev.c4
  have hz1 := lt_of_block G0.ev
  have HR := Lib.hid (show RdT w1.drew A ts from G0.rd.keep fun b o x hc => hc)
  have HG := Lib.hid G0
  clear G0
  go_region_held3 (fun w' => w'.cell? ⟨w.heap.size, 0, none⟩ = some (.string n) ∧ w'.cell? ⟨w.heap.size, 1, none⟩ = some (.slice A ts.length c) ∧ w'.cell? ⟨w.heap.size, 2, none⟩ = some (.int .i64 3) ∧ w'.cell? ⟨w.heap.size, 3, none⟩ = some (.int .i64 v) ∧ w'.cell? ⟨w.heap.size, 4, none⟩ = some (.int .i64 t))
    (first
      | go_keep
      | (go_split_ands
         refine ⟨?_, ?_, ?_, ?_, ?_⟩ <;> (first | exact (hb9.cell (World.block_lt_of_cell? _ _ ‹_›)).trans ‹_› | exact (hb8.cell (World.block_lt_of_cell? _ _ ‹_›)).trans ‹_› | exact (hb7.cell (World.block_lt_of_cell? _ _ ‹_›)).trans ‹_› | exact (hb7.cell hz1).trans c0 | exact (hb7.cell hz1).trans c1 | exact (hb7.cell hz1).trans c2 | exact (hb7.cell hz1).trans c3 | exact (hb7.cell hz1).trans c4)))
    (first
      | ((go_at_call 24; refine (CH'.out _ HR.out).mono ?_); rintro e w2 ⟨rfl, hb7⟩)
      | ((go_at_call 25; with_reducible refine (CV'.out _).mono ?_); rintro e w2 ⟨rfl, hb8⟩)
      | ((go_at_call 25; with_reducible refine (CT'.out _).mono ?_); rintro e w2 ⟨rfl, hb9⟩))
  go_wp2_with fail
  go_ret
  refine ⟨?_, ?_⟩
  · rw [HP.out, ← HH.out, ← HV.out, ← HT.out, ← str_app, ← str_app, ← str_app, ← str_app, ← str_app, ← str_app]
    rfl
  · have b0 : Below w.heap.size w w1.drew := ⟨HG.out.below.os, HG.out.below.tape, HG.out.below.output, HG.out.below.size, HG.out.below.block⟩
    have b1 := b0.trans (hb7.mono b0.size)
    have b2 := b1.trans (hb8.mono b1.size)
    exact b2.trans (hb9.mono b2.size)
end Go.Proofs.YtndpaafkipanmaaDoor
