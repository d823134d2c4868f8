/-
  The document's disk, on: Crash.
-/
import Derived.Test.YtgnkkcnmepafpaaGreatDoorQDiskRef
import Derived.Test.YtgnkkcnmepafpaaGreatDoorGrpB
import Derived.Deep.Cut
import Derived.Deep.CutRange
namespace Go.Proofs.YtgnkkcnmepafpaaGreatDoor
open Go.ChangeShapes Go.WideShapes Go.ChangeAt Go.RowKit
set_option linter.unusedVariables false

def RefCrash (w : World) (G : Nat → Prop) (m rm : Nat) (dn : Bool) (L : List Pt) (k : Int) (e : Ending) (w' : World) : Prop :=
  e = .returned (.tuple #[]) ∧ ∃ G', Rfd w' G' m rm true (opCrash dn L k) ∧ Mv8 w G w' G'
/-- Half way: the parts ahead have been dealt with. -/
structure Rr (w : World) (m rm : Nat) (A : Option Addr) (cap : Nat) (L : List Pt) (keep k lf : Nat) (wx : World) : Prop where
  mid : ∃ X, RfB wx m rm false A cap (X ++ L.drop k) ∧ X.length = k ∧ crash keep L = X ++ crash lf (L.drop k)
  keeps : Keeps (footR m A) w wx
theorem Rr.part {w wx : World} {m rm : Nat} {A : Option Addr} {cap : Nat} {L : List Pt} {keep k lf : Nat} (h : Rr w m rm A cap L keep k lf wx) {q : Pt} (hq : L[k]? = some q) :
    ∃ g, A = some ⟨g, 0, none⟩ ∧ wx.cell? ⟨m, 1, none⟩ = some (.slice A L.length cap) ∧ wx.cell? ⟨g, k * 3 + 1, none⟩ = some (.string ⟨q.b.toArray⟩) ∧ wx.cell? ⟨g, k * 3 + 2, none⟩ = some (.int .i64 (q.s : Nat)) ∧ (∀ o, wx.frozen? ⟨g, o, none⟩ = false) ∧
      ∃ X, X.length = k ∧ RfB wx m rm false A cap (X ++ q :: L.drop (k + 1)) ∧ crash keep L = X ++ crash lf (q :: L.drop (k + 1)) := by
  obtain ⟨X, h1, h2, h3⟩ := h.mid
  have hkl := (List.getElem?_eq_some_iff.1 hq).1
  have hdr : L.drop k = q :: L.drop (k + 1) := by rw [List.drop_eq_getElem_cons hkl]; rw [List.getElem?_eq_getElem hkl] at hq; cases hq; rfl
  have hlen : (X ++ L.drop k).length = L.length := by rw [List.length_append, List.length_drop, h2]; omega
  have c1 := h1.c1
  rw [hlen] at c1
  rw [hdr] at h1 h3
  obtain ⟨g, e, d0, d1, d2, df⟩ := h1.at
  rw [h2] at d1 d2
  exact ⟨g, e, c1, d1, d2, df, X, h2, h1, h3⟩
theorem Rr.len {w wx : World} {m rm : Nat} {A : Option Addr} {cap : Nat} {L : List Pt} {keep k lf : Nat} (h : Rr w m rm A cap L keep k lf wx) (hk : k ≤ L.length) : wx.cell? ⟨m, 1, none⟩ = some (.slice A L.length cap) := by
  obtain ⟨X, h1, h2, h3⟩ := h.mid
  have c1 := h1.c1
  rw [show (X ++ L.drop k).length = L.length by rw [List.length_append, List.length_drop, h2]; omega] at c1
  exact c1
set_option maxRecDepth 100000 in
set_option maxHeartbeats 4000000 in
theorem refCrash_up (w : World) (G : Nat → Prop) (m rm : Nat) (L : List Pt) (kp : Int) (h : Rfd w G m rm false L) (hi : Inv rm L) (hl : L.length ≤ 1000) (hk : kp ≤ 9223372036854775807) :
    Calls Tryz.prog 19 #[.pointer (some ⟨m, 0, none⟩), .int .i64 kp] w (RefCrash w G m rm false L kp) := by
  obtain ⟨A, cap, hd, hG⟩ := h
  have c2 := hd.c2
  have HC : Hid (Rr w m rm A cap L (keepN kp) 0 (keepN kp) w) := Lib.hid ⟨⟨[], by simpa using hd, rfl, by simp⟩, Keeps.refl _ _⟩
  have HG := Lib.hid hG
  have HS : Hid (∀ p ∈ L, p.s ≤ p.b.length ∧ p.b.length ≤ 65536) := Lib.hid (fun p hp => ⟨hi.syn p hp, by have := used_mem hp; have := hi.fits; have := hi.room; omega⟩)
  have lm := hd.lt
  have hkn : keepN kp ≤ 9223372036854775807 := by unfold keepN; omega
  clear hd hG hi
  go_enter Tryz.func19, Tryz.ntmps19
  go_upto_if 11 with fail
  go_cut [1] from 10 to 11 (fun v1 wx => v1 = .int .i64 (keepN kp : Nat) ∧ wx = w)
  case first =>
    by_cases hneg : kp < 0
    · go_wp2_with fail
      go_meet
      exact ⟨by rw [show keepN kp = 0 by unfold keepN; omega]; rfl, rfl⟩
    · go_wp2_with fail
      go_meet
      exact ⟨by rw [show ((keepN kp : Nat) : Int) = kp by unfold keepN; omega], rfl⟩
  case rest =>
    obtain ⟨rfl, rfl⟩ := hcut
    go_wp2_with fail
    go_loopg [1, 4, 5] (L.length) (fun g s1 s4 s5 wx => ∃ (k lf : Nat), k + g = L.length ∧ lf ≤ keepN kp ∧ s1 = .int .i64 lf ∧ s4 = .int .i64 k ∧ Hid (Rr wc m rm A cap L (keepN kp) k lf wx))
    case atStart => exact ⟨0, keepN kp, by omega, Nat.le_refl _, rfl, rfl, HC⟩
    case round =>
      clear HC
      obtain ⟨k, lf, hkg, hlf, rfl, rfl, HC⟩ := hrel
      have c1 := HC.out.len (by omega)
      cases gk with
      | zero =>
        have x1 : decide ((k : Int) < (L.length : Int)) = false := decide_eq_false (by omega)
        obtain ⟨X, hb, hX, hcr⟩ := HC.out.mid
        have f2 := hb.f 2
        have c2r := hb.c2
        have FIN : Hid (RefCrash wc G m rm false L kp (.returned (.tuple #[])) (wr.setCell ⟨m, 2, none⟩ (.bool true))) := Lib.hid (by
          rw [List.drop_of_length_le (by omega)] at hb hcr
          refine ⟨rfl, G, ⟨A, cap, ?_, HG.out⟩, Mv8.put HG.out (HC.out.keeps.set _ _ (.inl (.inl rfl)))⟩
          unfold opCrash
          rw [if_neg (by simp), hcr]
          exact hb.setD true)
        clear hb hX hcr HC
        go_wp2_with fail
        go_end0
        exact FIN.out
      | succ gk =>
        have hkl : k < L.length := by omega
        have x1 : decide ((k : Int) < (L.length : Int)) = true := decide_eq_true (by omega)
        obtain ⟨q, hq⟩ : ∃ q, L[k]? = some q := ⟨L[k], List.getElem?_eq_getElem hkl⟩
        obtain ⟨g0, rfl, c1, d1, d2, df, X, hX, hb, hcr⟩ := HC.out.part hq
        obtain ⟨hs1, hs2⟩ := HS.out q (List.mem_of_getElem? hq)
        obtain ⟨mo, hmo⟩ : ∃ mo, min lf (q.b.length - q.s) = mo := ⟨_, rfl⟩
        have HB := Lib.hid hb
        have HCR := Lib.hid hcr
        have HX := Lib.hid hX
        have HM := Lib.hid hmo
        have HK := Lib.hid HC.out.keeps
        clear hb hcr hX hmo HC hq
        go_wp2_with fail
        go_quiet (fail)
        go_upto_if 41 with fail
        go_cut [5] from 41 to 42 (fun v5 wx => v5 = .int .i64 (mo : Nat) ∧ wx = wr.drewN nq)
        case first =>
          have hm := HM.out
          by_cases hlt : (lf : Int) < (q.b.length : Int) - (q.s : Int)
          · have hd : decide ((lf : Int) < (q.b.length : Int) - (q.s : Int)) = true := decide_eq_true hlt
            have e : mo = lf := by omega
            clear hm
            go_wp2_with fail
            go_meet
            exact ⟨by rw [e], rfl⟩
          · have hd : decide ((lf : Int) < (q.b.length : Int) - (q.s : Int)) = false := decide_eq_false hlt
            have e : (mo : Int) = (q.b.length : Int) - (q.s : Int) := by omega
            clear hm
            have HE := Lib.hid e
            clear e
            go_wp2_with fail
            go_meet
            exact ⟨by rw [HE.out], rfl⟩
        case rest =>
          obtain ⟨rfl, rfl⟩ := hcut
          have hmo1 : mo ≤ lf := by have := HM.out; omega
          have hmo2 : q.s + mo ≤ q.b.length := by have := HM.out; omega
          have HB1 := Lib.hid (HB.out.drewN nq)
          have HK1 := Lib.hid (HK.out.drewN nq)
          have d1U : (wr.drewN nq).cell? ⟨g0, k * 3 + 1, none⟩ = some (.string ⟨q.b.toArray⟩) := d1
          have d2U : (wr.drewN nq).cell? ⟨g0, k * 3 + 2, none⟩ = some (.int .i64 (q.s : Nat)) := d2
          have c1U : (wr.drewN nq).cell? ⟨m, 1, none⟩ = some (.slice (some ⟨g0, 0, none⟩) L.length cap) := c1
          have f2U : (wr.drewN nq).frozen? ⟨g0, k * 3 + 2, none⟩ = false := df _
          clear d1 d2 c1 df HB HK
          generalize wr.drewN nq = U at HB1 HK1 d1U d2U c1U f2U ⊢
          obtain ⟨sm, hsm⟩ : ∃ sm, q.s + mo = sm := ⟨_, rfl⟩
          have es : Hid ((q.s : Int) + (mo : Int) = ((sm : Nat) : Int)) := Lib.hid (by omega)
          have hsl : sm ≤ q.b.length := by omega
          have HSM := Lib.hid hsm
          clear hsm
          go_wp2_with fail
          go_region
          rw [es.out]
          have D2 := (HB1.out.put (j := 2) (u := .int .i64 (sm : Nat)) (q := ⟨q.n, q.b, sm⟩) (by omega) rfl).drew
          rw [HX.out] at D2
          have K2 : Keeps (footR m (some ⟨g0, 0, none⟩)) wc (U.setCell ⟨g0, k * 3 + 2, none⟩ (.int .i64 (sm : Nat))).drew := ((HK1.out.set ⟨g0, k * 3 + 2, none⟩ (.int .i64 (sm : Nat)) (.inl (.inr ⟨_, rfl, rfl⟩))).drew)
          obtain ⟨g1, e1, _, b1, b2, bf⟩ := D2.at
          cases e1
          rw [HX.out] at b1 b2
          have c1V := D2.c1
          have hlV : (X ++ (⟨q.n, q.b, sm⟩ : Pt) :: L.drop (k + 1)).length = L.length := by
            rw [List.length_append, List.length_cons, List.length_drop, HX.out]; omega
          rw [hlV] at c1V
          have f1V := bf (k * 3 + 1)
          have HD2 := Lib.hid D2
          have HK2 := Lib.hid K2
          have st := str_take q.b sm hsl
          clear D2 K2 bf hlV c1U d1U d2U f2U
          generalize (U.setCell ⟨g0, k * 3 + 2, none⟩ (.int .i64 (sm : Nat))).drew = V at HD2 HK2 b1 b2 c1V f1V ⊢
          go_wp2_with fail
          go_region
          have D3 := (HD2.out.put (j := 1) (u := .string ⟨(q.b.take sm).toArray⟩) (q := ⟨q.n, q.b.take sm, sm⟩) (by omega) rfl).drew
          rw [HX.out] at D3
          have HR : Hid (Rr wc m rm (some ⟨g0, 0, none⟩) cap L (keepN kp) (k + 1) (lf - mo) (V.setCell ⟨g0, k * 3 + 1, none⟩ (.string ⟨(q.b.take sm).toArray⟩)).drew) := Lib.hid ⟨⟨X ++ [⟨q.n, q.b.take sm, sm⟩], by rw [List.append_assoc]; exact D3, by rw [List.length_append, List.length_singleton, HX.out], by
            rw [HCR.out, crash, HM.out, HSM.out, List.append_assoc]
            rfl⟩, ((HK2.out.set ⟨g0, k * 3 + 1, none⟩ (.string ⟨(q.b.take sm).toArray⟩) (.inl (.inr ⟨_, rfl, rfl⟩))).drew)⟩
          clear D3
          go_wp2_with fail
          go_roundg gk
          case rel => exact ⟨k + 1, lf - mo, by omega, by omega, by go_num, by go_num, HR⟩
          case measure => omega
theorem refCrash (w : World) (G : Nat → Prop) (m rm : Nat) (dn : Bool) (L : List Pt) (kp : Int) (h : Rfd w G m rm dn L) (hi : Inv rm L) (hl : L.length ≤ 1000) (hk : kp ≤ 9223372036854775807) :
    Calls Tryz.prog 19 #[.pointer (some ⟨m, 0, none⟩), .int .i64 kp] w (RefCrash w G m rm dn L kp) := by
  cases dn with
  | false => exact refCrash_up w G m rm L kp h hi hl hk
  | true =>
    have HD := Lib.hid h
    obtain ⟨A, cap, hd, hG⟩ := h
    have c2 := hd.c2
    clear hd hG hi
    go_enter Tryz.func19, Tryz.ntmps19
    go_wp2_with fail
    refine bodyPost_ret (v := .tuple #[]) (by simp [results, Tryz.results19, go_sem]) rfl ?_
    exact ⟨rfl, G, HD.out, Mv8.still (Below.refl _ _)⟩
end Go.Proofs.YtgnkkcnmepafpaaGreatDoor
