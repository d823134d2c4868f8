/-
  Layer 9 (journal): First, Next, last, lastHasEnough, Record, a record's bytes, Sync.
-/
import Derived.Test.YtgohgmihoggcpaaJournalMem
import Derived.Deep.RegionLaw
import Derived.Deep.RegionWith
import Derived.Deep.QuietTactic
import Derived.BigQuiet
import Derived.IntWalk
namespace Go.Proofs.Ytgohgmihoggcpaa
open Go.ChangeShapes Go.WideShapes Go.ChangeAt Go.RowKit
set_option linter.unusedVariables false

theorem below_drewN (w : World) (n : Nat) : Below w.heap.size w (w.drewN n) := ⟨rfl, rfl, rfl, Nat.le_refl _, fun _ _ => rfl⟩
theorem below_drew (w : World) : Below w.heap.size w w.drew := ⟨rfl, rfl, rfl, Nat.le_refl _, fun _ _ => rfl⟩
section
variable {w : World} {B ad aj : Nat} {many : Int} {vp vr : Value} {P : List Int} {R : List Rc}
theorem JrG.drewN (h : JrG w B ad aj many vp vr P R) (n : Nat) : JrG (w.drewN n) B ad aj many vp vr P R := h.still (below_drewN w n)
theorem j_ints (h : JrG w B ad aj many vp vr P R) : ∃ A cap, vp = .slice A P.length cap ∧ ∀ (i : Nat) (n : Int), P[i]? = some n → ∃ g, A = some ⟨g, 0, none⟩ ∧ w.cell? ⟨g, i, none⟩ = some (.int .i64 n) := by
  have hp := h.pk
  obtain ⟨A, cap, rfl, hA⟩ := oi_shape hp
  refine ⟨A, cap, rfl, fun i n hn => ?_⟩
  obtain ⟨g, rfl⟩ := hA i n hn
  exact ⟨g, rfl, oi_cell hp hn⟩
theorem firstJ (h : JrG w B ad aj many vp vr P R) :
    Calls Try.prog 10 #[.pointer (some ⟨aj, 0, none⟩)] w fun e w' => e = .returned (.int .i64 (jFirst P)) ∧ w' = w := by
  have c2 := h.c2
  obtain ⟨A, cap, rfl, hA⟩ := j_ints h
  cases P with
  | nil =>
    clear h hA
    go_enter Try.func10, Try.ntmps10
    go_wp2
    go_ret
    exact ⟨rfl, rfl⟩
  | cons n P =>
    obtain ⟨g, rfl, hc⟩ := hA 0 n rfl
    clear h hA
    have h0 : 0 < (n :: P).length := by simp
    generalize (n :: P).length = N at c2 h0
    have hb : ((N : Int) == 0) = false := beq_eq_false_iff_ne.2 (by omega)
    have hb' : ¬ N = 0 := by omega
    go_enter Try.func10, Try.ntmps10
    go_wp2
    go_ret
    exact ⟨rfl, rfl⟩
theorem last_some {P : List Int} {M : Nat} (h : P.length = M + 1) : P[M]? = some (jLast P) := by
  unfold jLast
  have : P ≠ [] := fun e => by rw [e] at h; cases h
  rw [List.getLastD_eq_getLast?, List.getLast?_eq_getElem?, h]
  simp only [Nat.add_sub_cancel]
  rw [List.getElem?_eq_getElem (by omega)]
  rfl
theorem lastJ (h : JrG w B ad aj many vp vr P R) (hP : P ≠ []) (hl : P.length ≤ 1000) :
    Calls Try.prog 19 #[.pointer (some ⟨aj, 0, none⟩)] w fun e w' => e = .returned (.int .i64 (jLast P)) ∧ ∃ m, w' = w.drewN m := by
  have c2 := h.c2
  obtain ⟨A, cap, rfl, hA⟩ := j_ints h
  obtain ⟨M, hM⟩ : ∃ M, P.length = M + 1 := ⟨P.length - 1, by have := List.length_pos_iff.2 hP; omega⟩
  obtain ⟨g, rfl, hc⟩ := hA M _ (last_some hM)
  rw [hM] at c2 hl
  clear h hA hM hP
  generalize jLast P = n at *
  have hw : ((M + 1 : Nat) : Int) - 1 = (M : Int) := by omega
  have h1 : (M : Int) < ((M + 1 : Nat) : Int) := by omega
  generalize hN : M + 1 = N at *
  have hw' : IntKind.i64.wrap ((N : Int) - 1) = (M : Int) := by rw [hw]; exact IntWalk.i64_in _ (by omega)
  have h0 : (0 : Int) ≤ (M : Int) := by omega
  clear hN hw
  go_enter Try.func19, Try.ntmps19
  go_wp2_with fail
  go_quiet (fail)
  go_wp2
  go_ret
  exact ⟨rfl, _, rfl⟩
/-- Its numbers are not too great, nor are there too many. -/
structure Fits (P : List Int) (R : List Rc) : Prop where
  lo : ∀ n ∈ P, 0 ≤ n ∧ n ≤ 4611686018427387904
  pl : P.length ≤ 1000
  rl : R.length ≤ 100000
theorem Fits.first {P : List Int} {R : List Rc} (h : Fits P R) : 0 ≤ jFirst P ∧ jFirst P ≤ 4611686018427387904 := by
  cases P with
  | nil => exact ⟨Int.le_refl _, by show (0 : Int) ≤ _; omega⟩
  | cons n P => exact h.lo n (by simp)
theorem Fits.last {P : List Int} {R : List Rc} (h : Fits P R) : 0 ≤ jLast P ∧ jLast P ≤ 4611686018427387904 := by
  by_cases hP : P = []
  · subst hP; exact ⟨Int.le_refl _, by show (0 : Int) ≤ _; omega⟩
  · obtain ⟨M, hM⟩ : ∃ M, P.length = M + 1 := ⟨P.length - 1, by have := List.length_pos_iff.2 hP; omega⟩
    exact h.lo _ (List.mem_of_getElem? (last_some hM))
theorem Fits.next {P : List Int} {R : List Rc} (h : Fits P R) : 0 ≤ jNext P R ∧ jNext P R ≤ 4611686018427487904 := by
  have := h.first
  have := h.rl
  unfold jNext
  omega
theorem nextJ (h : JrG w B ad aj many vp vr P R) (hf : Fits P R) :
    Calls Try.prog 11 #[.pointer (some ⟨aj, 0, none⟩)] w fun e w' => e = .returned (.int .i64 (jNext P R)) ∧ ∃ m, w' = w.drewN m := by
  have c3 := h.c3
  obtain ⟨A, cap, rfl, _⟩ := os_shape h.rk
  have C := Lib.hid (fun n : Nat => firstJ (h.drewN n))
  have hn := hf.next
  have hs : IntKind.i64.wrap (jFirst P + (R.length : Int)) = jNext P R := by
    rw [show jFirst P + (R.length : Int) = jNext P R from rfl]; exact IntWalk.i64_in _ (by omega)
  generalize R.length = N at *
  clear h hf hn
  go_enter Try.func11, Try.ntmps11
  go_wp2_with fail
  go_quiet ((go_at_call 10; exact Calls.quiet_of_same (C.out _)))
  go_wp2
  go_ret
  exact ⟨rfl, _, rfl⟩
theorem jFull_nil (many : Int) (R : List Rc) : jFull many [] R = true := rfl
theorem jFull_some {many : Int} {P : List Int} {R : List Rc} (hP : P ≠ []) : jFull many P R = decide (many ≤ jNext P R - jLast P) := by unfold jFull; rw [decide_eq_false hP]; rfl
theorem enoughJ (h : JrG w B ad aj many vp vr P R) (hf : Fits P R) (hm : 0 ≤ many ∧ many ≤ 1000) :
    Calls Try.prog 16 #[.pointer (some ⟨aj, 0, none⟩)] w fun e w' => e = .returned (.bool (jFull many P R)) ∧ ∃ m, w' = w.drewN m := by
  have c1 := h.c1
  have c2 := h.c2
  obtain ⟨A, cap, rfl, hA⟩ := j_ints h
  by_cases hP : P = []
  · subst hP
    rw [jFull_nil]
    clear h hA hf
    go_enter Try.func16, Try.ntmps16
    go_wp2_with fail
    go_quiet (fail)
    go_wp2
    go_ret
    exact ⟨rfl, _, rfl⟩
  · rw [jFull_some hP]
    have C := Lib.hid (fun n : Nat => nextJ (h.drewN n) hf)
    have D := Lib.hid (fun n : Nat => lastJ (h.drewN n) hP hf.pl)
    have h0 : 0 < P.length := List.length_pos_iff.2 hP
    have hn := hf.next
    have hl := hf.last
    have hw : IntKind.i64.wrap (jNext P R - jLast P) = jNext P R - jLast P := IntWalk.i64_in _ (by omega)
    generalize P.length = N at c2 h0
    have hb : ((N : Int) == 0) = false := beq_eq_false_iff_ne.2 (by omega)
    have hb' : ¬ N = 0 := by omega
    clear h hA hf hn hl h0
    generalize jNext P R = x at *
    generalize jLast P = y at *
    go_enter Try.func16, Try.ntmps16
    go_wp2_with fail
    go_quiet (first | (go_at_call 11; exact Calls.quiet_of (C.out _)) | (go_at_call 19; exact Calls.quiet_of (D.out _)))
    go_wp2
    go_ret
    exact ⟨rfl, _, rfl⟩
theorem str_row' (w : World) (r : Rc) (hr : r.length ≤ 1000000) :
    ∃ cap w', (convert 9 32 (.string ⟨r.toArray⟩)).run Try.prog w = .ok (.slice (some ⟨w.heap.size, 0, none⟩) r.length cap) w' ∧ RdS w' (some ⟨w.heap.size, 0, none⟩) cap r ∧ Below w.heap.size w w' := by
  have hz : ByteArray.size ⟨r.toArray⟩ = r.length := by simp [ByteArray.size]
  obtain ⟨cap, w', h1, h2, h3⟩ := str_row w ⟨r.toArray⟩ (by rw [hz]; exact hr)
  rw [hz] at h1
  exact ⟨cap, w', h1, h2, h3⟩
set_option maxRecDepth 100000 in
theorem recordJ (h : JrG w B ad aj many vp vr P R) (hf : Fits P R) {k : Nat} {r : Rc} (hk : R[k]? = some r) (hr : r.length ≤ 1000000) {n : Int} (hn : n = jFirst P + (k : Nat)) :
    Calls Try.prog 12 #[.pointer (some ⟨aj, 0, none⟩), .int .i64 n] w fun e w' => ∃ A cap, e = .returned (.tuple #[.slice A r.length cap, .nilIface]) ∧ RdS w' A cap r ∧ Below w.heap.size w w' := by
  have c3 := h.c3
  obtain ⟨A, cap, rfl, _, hA⟩ := os_shape h.rk
  have hlt := (List.getElem?_eq_some_iff.1 hk).1
  have C := Lib.hid (firstJ h)
  obtain ⟨ad', rfl⟩ : ∃ ad', A = some ad' := by
    cases A with
    | none =>
      have h1 := h.rk
      rcases h1.2 with ⟨_, e⟩ | ⟨g, cap', cur, e, _⟩
      · omega
      · cases e
    | some a => exact ⟨a, rfl⟩
  have hc := (hA ad' rfl).2 k r hk
  unfold encS at hc
  have ht := (hA ad' rfl).1
  generalize ad'.block = g at ht
  subst ht
  rw [Addr.add_lit, Nat.zero_add] at hc
  obtain ⟨cap2, w2, r2, R2, B2⟩ := str_row' w r hr
  have hff := hf.first
  have hrl := hf.rl
  have hs : n - jFirst P = (k : Int) := by omega
  have hge : ¬ n < jFirst P := by omega
  have hle : n ≤ 4611686018427487904 := by omega
  have h0 : 0 ≤ n := by omega
  have R2 := Lib.hid R2
  have B2 := Lib.hid B2
  generalize R.length = N at *
  generalize jFirst P = f at *
  have hkN : (k : Int) < (N : Int) := by omega
  have hb : decide ((N : Int) ≤ (k : Int)) = false := decide_eq_false (by omega)
  clear h hA hf hk hn hlt
  go_enter Try.func12, Try.ntmps12
  go_wp2_with fail
  refine C.out.mono ?_
  rintro e w1 ⟨rfl, rfl⟩
  clear C
  go_wp2
  go_ret2
  exact ⟨_, _, rfl, R2.out, B2.out⟩
theorem bytesJ (w : World) (r : Rc) (hr : r.length ≤ 4096) :
    Calls Try.prog 20 #[.string ⟨r.toArray⟩] w fun e w' => ∃ A cap, e = .returned (.slice A (encR r).length cap) ∧ RdS w' A cap (encR r) ∧ Below w.heap.size w w' := by
  have hz : ByteArray.size ⟨r.toArray⟩ = r.length := by simp [ByteArray.size]
  have C := Lib.hid (wireTextL none 0 [] ⟨r.toArray⟩ w (RdS.nil w) (by simp) (by rw [hz]; omega))
  rw [List.nil_append, encT_arr] at C
  go_enter Try.func20, Try.ntmps20
  go_wp2_with fail
  refine C.out.mono ?_
  rintro e w1 ⟨v, rfl, o, b⟩
  obtain ⟨A, cap, rfl, hr⟩ := o.rd
  have HR := Lib.hid hr
  have HB := Lib.hid b
  clear o hr b C
  generalize hL : (encR r).length = N
  go_wp2
  go_ret
  exact ⟨A, cap, by rw [hL]; rfl, HR.out, HB.out⟩
end
section
variable {W w : World} {ad aj rm : Nat} {dn : Bool} {L : List Pt} {many : Int} {P : List Int} {R : List Rc}
theorem Jn.sync (h : Jn W w ad aj rm dn L many P R) (n : Int) (hi : Inv rm L) (hl : L.length ≤ 1000) (h0 : -9223372036854775808 ≤ n) (h1 : n ≤ 9223372036854775807) :
    Calls Try.prog 21 #[.pointer (some ⟨ad, 0, none⟩), .int .i64 n] w fun e w' => e = .returned (ErrV (opSync dn L n).1) ∧ Jn W w' ad aj rm dn (opSync dn L n).2 many P R :=
  h.dsk fun F hF => syncD w F ad rm dn L n hF hi hl h0 h1
theorem Jn.append (h : Jn W w ad aj rm dn L many P R) (n : Int) {B : Option Addr} {cb : Nat} {bs : List UInt8} (hr : RdS w B cb bs) (hi : Inv rm L) (hl : L.length ≤ 1000) (hn : n ≤ 9223372036854775807) (hb : bs.length ≤ 1000000) :
    Calls Try.prog 18 #[.pointer (some ⟨ad, 0, none⟩), .int .i64 n, .slice B bs.length cb] w fun e w' => e = .returned (ErrV (opAppend rm dn L n bs).1) ∧ Jn W w' ad aj rm dn (opAppend rm dn L n bs).2 many P R :=
  h.dsk fun F hF => appendD w F ad rm dn L n B cb bs hF hr hi hl hn hb
theorem Jn.cut (h : Jn W w ad aj rm dn L many P R) (n m : Int) (hi : Inv rm L) (hl : L.length ≤ 1000) (h0 : -9223372036854775808 ≤ n) (h1 : n ≤ 9223372036854775807) (m0 : -9223372036854775808 ≤ m) (m1 : m ≤ 9223372036854775807) :
    Calls Try.prog 33 #[.pointer (some ⟨ad, 0, none⟩), .int .i64 n, .int .i64 m] w fun e w' => e = .returned (ErrV (opCut dn L n m).1) ∧ Jn W w' ad aj rm dn (opCut dn L n m).2 many P R :=
  h.dsk fun F hF => cutD w F ad rm dn L n m hF hi hl h0 h1
theorem Jn.jrg (h : Jn W w ad aj rm dn L many P R) : ∃ vp vr, JrG w W.heap.size ad aj many vp vr P R := h.2
end
end Go.Proofs.Ytgohgmihoggcpaa
