/-
  Layer 6 (wire): a Reader's Text.
-/
import Derived.Test.YtgohgmihoggcpaaWireRead
namespace Go.Proofs.Ytgohgmihoggcpaa
open Go.ChangeShapes Go.WideShapes Go.ChangeAt Go.RowKit
set_option linter.unusedVariables false

/-- 's[lo:hi]'. -/
theorem slice_mid (A : Option Addr) (cap : Nat) (l : List UInt8) (lo n : Nat) (hn : lo + n ≤ l.length) (hle : l.length ≤ cap) (hnone : A = none → cap = 0) :
    ∃ A', (∀ (w : World) (x y : Int), x = lo → y = (lo + n : Nat) → (Instr.slice 32 (.slice A l.length cap) (some (.int .i64 x)) (some (.int .i64 y)) none).run Try.prog w = .ok (.slice A' n (cap - lo)) w) ∧
      ∀ w, RdS w A cap l → RdS w A' (cap - lo) ((l.drop lo).take n) := by
  refine ⟨if cap = lo then A else A.map (·.add lo), fun w x y hx hy => ?_, fun w h => ?_⟩
  · subst hx
    subst hy
    obtain ⟨i, hi, hz0, hz1, hz2⟩ := info_parts infoB
    rw [run_slice_lh w 32 A l.length cap underB _ _ _ _ (by omega) (by omega) (by omega)]
    have hs : (sizeOf (Try.prog.elem 32)).run Try.prog w = .ok 1 w := by
      rw [elemB]
      simp [sizeOf, typeInfo, hi, hz1, Result.andThen]
    rw [hs]
    simp [Result.andThen, sliced]
    omega
  · refine ⟨by rw [List.length_take, List.length_drop]; have := h.le; omega, fun e => ?_, fun ad ha i c hi => ?_⟩
    · split at e
      · omega
      · cases A with
        | none => have := h.nn rfl; omega
        | some a => cases e
    · rw [List.getElem?_take] at hi
      split at hi
      · rw [List.getElem?_drop] at hi
        have hlt := (List.getElem?_eq_some_iff.1 hi).1
        split at ha
        · have := h.le; omega
        · cases A with
          | none => cases ha
          | some a =>
            cases ha
            rw [Addr.add_add]
            exact h.rd a rfl (lo + i) c hi
      · cases hi

theorem aheadR_bad (l : List UInt8) (r : Rs) : (aheadR l r).bad = false → ∃ n k, r.bad = false ∧ decF 0 0 (l.drop r.at_) = some (n, k) ∧ aheadV l r = (n, k) ∧ aheadR l r = ⟨r.at_, false⟩ := by
  unfold aheadR aheadV
  obtain ⟨k, bad⟩ := r
  cases bad with
  | true => intro h; cases h
  | false =>
    intro h
    cases hd : decF 0 0 (l.drop k) with
    | none => rw [if_neg (by simp), hd] at h; cases h
    | some p => exact ⟨p.1, p.2, rfl, rfl, rfl, rfl⟩
theorem rsText_bad (l : List UInt8) (r : Rs) (most : Int) (h : (aheadR l r).bad = true) : rsText l most r = ([], aheadR l r) := by
  unfold rsText
  obtain ⟨k, bad⟩ := r
  cases bad with
  | true => rfl
  | false =>
    unfold aheadR at h ⊢
    simp only at h ⊢
    cases hd : decF 0 0 (l.drop k) with
    | none => rfl
    | some p => rw [hd] at h; cases h
theorem rsText_ok (l : List UInt8) (r : Rs) (most : Int) {n k : Nat} (h : r.bad = false) (hd : decF 0 0 (l.drop r.at_) = some (n, k)) :
    rsText l most r = if most < 0 ∨ most < n ∨ l.length - (r.at_ + k) < n then ([], ⟨r.at_, true⟩) else ((l.drop (r.at_ + k)).take n, ⟨r.at_ + k + n, false⟩) := by
  unfold rsText
  rw [h, hd]
  rfl

def Texts (w : World) (b : Nat) (A : Option Addr) (cap : Nat) (l : List UInt8) (r : Rs) (most : Int) (e : Ending) (w' : World) : Prop :=
  e = .returned (.string ⟨(rsText l most r).1.toArray⟩) ∧ Mr w b A cap l (rsText l most r).2 w'
set_option maxRecDepth 100000 in
theorem wireReadText (w : World) (b : Nat) (A : Option Addr) (cap : Nat) (l : List UInt8) (r : Rs) (most : Int) (h : Rdr w b A cap l r) (hl : l.length ≤ 1000000)
    (m0 : -9223372036854775808 ≤ most) (m1 : most ≤ 9223372036854775807) :
    Calls Try.prog 40 #[.pointer (some ⟨b, 0, none⟩), .int .i64 most] w (Texts w b A cap l r most) := by
  have C := wireAhead w b A cap l r h hl
  cases hb : (aheadR l r).bad with
  | true =>
    have HE := Lib.hid (rsText_bad l r most hb)
    have C := Lib.hid C
    clear h
    go_enter Try.func40, Try.ntmps40
    go_wp2_with fail
    refine C.out.mono ?_
    rintro e w1 ⟨rfl, m1⟩
    have M1 := Lib.hid m1
    have c2 := m1.rdr.c2
    rw [hb] at c2
    clear m1 C hb
    go_wp2_with fail
    go_ret
    unfold Texts
    rw [HE.out]
    exact ⟨rfl, M1.out⟩
  | false =>
    obtain ⟨n, k, hrb, hd, hv, hR⟩ := aheadR_bad l r hb
    have hT := rsText_ok l r most hrb hd
    obtain ⟨d1, d2, d3, d4⟩ := dec_bound _ 0 0 n k (by omega) hd
    rw [List.length_drop] at d3
    have hat := h.le
    unfold Aheads at C
    rw [hv, hR] at C
    have C := Lib.hid C
    obtain ⟨p, rb⟩ := r
    have hat : p ≤ l.length := hat
    have d3 : k ≤ 0 + (l.length - p) := d3
    have HRLE := Lib.hid h.rd.le
    have HRNN := Lib.hid h.rd.nn
    clear h hb hv hR hd hrb
    unfold Texts
    by_cases hm : most < 0 ∨ most < n ∨ l.length - (p + k) < n
    · rw [if_pos hm] at hT
      rw [hT]
      by_cases hneg : most < 0
      · clear hm
        go_enter Try.func40, Try.ntmps40
        go_wp2_with fail
        refine C.out.mono ?_
        rintro e w1 ⟨rfl, m1⟩
        have M1 := Lib.hid m1
        have c0 := m1.rdr.c0
        have c1 := m1.rdr.c1
        have c2 := m1.rdr.c2
        have f2 := m1.rdr.f2
        clear m1 C
        go_wp2_with fail
        go_ret
        exact ⟨rfl, grown_set M1.out.grown _ _ (Or.inl rfl), M1.out.rdr.mark true⟩
      · have hor : ((l.length : Int) - ((p : Int) + (k : Int)) < most ∧ (l.length : Int) - ((p : Int) + (k : Int)) < (n : Int)) ∨ (¬ (l.length : Int) - ((p : Int) + (k : Int)) < most ∧ most < (n : Int)) := by omega
        clear hm
        rcases hor with ⟨hc1, hc2⟩ | ⟨hc1, hc2⟩
        all_goals
          go_enter Try.func40, Try.ntmps40
          go_wp2_with fail
          refine C.out.mono ?_
          rintro e w1 ⟨rfl, m1⟩
          have M1 := Lib.hid m1
          have c0 := m1.rdr.c0
          have c1 := m1.rdr.c1
          have c2 := m1.rdr.c2
          have f2 := m1.rdr.f2
          clear m1 C
          go_wp2_with fail
          go_ret
          exact ⟨rfl, grown_set M1.out.grown _ _ (Or.inl rfl), M1.out.rdr.mark true⟩
    · rw [if_neg hm] at hT
      rw [hT]
      have hneg : ¬ most < 0 := by omega
      have hor : ((l.length : Int) - ((p : Int) + (k : Int)) < most ∧ ¬ (l.length : Int) - ((p : Int) + (k : Int)) < (n : Int)) ∨ (¬ (l.length : Int) - ((p : Int) + (k : Int)) < most ∧ ¬ most < (n : Int)) := by omega
      have hfit : p + k + n ≤ l.length := by omega
      obtain ⟨A', hsl, hrd⟩ := slice_mid A cap l (p + k) n hfit HRLE.out HRNN.out
      have HRD := Lib.hid hrd
      have sl := fun w' : World => hsl w' ((p : Int) + (k : Int)) ((p : Int) + (k : Int) + (n : Int)) (by omega) (by omega)
      clear hm hsl hrd
      rcases hor with ⟨hc1, hc2⟩ | ⟨hc1, hc2⟩
      all_goals
        go_enter Try.func40, Try.ntmps40
        go_wp2_with fail
        refine C.out.mono ?_
        rintro e w1 ⟨rfl, m1⟩
        have M1 := Lib.hid m1
        have c0 := m1.rdr.c0
        have c1 := m1.rdr.c1
        have c2 := m1.rdr.c2
        have f1 := m1.rdr.f1
        clear m1 C
        go_wp2_with fail
        have MV := M1.out.rdr.move (p + k + n) hfit
        have GV := grown_set M1.out.grown ⟨b, 1, none⟩ (.int .i64 ((p : Int) + (k : Int) + (n : Int))) (Or.inl rfl)
        rw [Int.natCast_add, Int.natCast_add] at MV
        clear c0 c1 c2 f1 M1
        generalize w1.setCell ⟨b, 1, none⟩ (.int .i64 ((p : Int) + (k : Int) + (n : Int))) = w2 at MV GV ⊢
        have c0 := MV.c0
        have c1 := MV.c1
        rw [Int.natCast_add, Int.natCast_add] at c1
        have hcv := fun q : Nat => rd_conv (HRD.out _ (MV.rd.drew q))
        have hlen : ((l.drop (p + k)).take n).length = n := by rw [List.length_take, List.length_drop]; omega
        rw [hlen] at hcv
        have HV := Lib.hid MV
        have HG := Lib.hid GV
        clear MV GV hlen
        go_quiet (fail)
        all_goals go_wp2
        all_goals
          go_ret
          exact ⟨rfl, grown_drew HG.out _, HV.out.drew _⟩
end Go.Proofs.Ytgohgmihoggcpaa
