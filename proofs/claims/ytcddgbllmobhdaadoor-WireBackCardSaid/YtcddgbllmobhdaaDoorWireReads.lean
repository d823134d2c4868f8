/-
  The law WireReads (layer 6), walked.
-/
import Derived.Test.YtcddgbllmobhdaaDoorWireUp
import Derived.Test.YtcddgbllmobhdaaDoorWireText
import Derived.Test.YtcddgbllmobhdaaDoorWireRefText
import Derived.Test.YtcddgbllmobhdaaDoorWireRefEnd
import Derived.Deep.RegionHeld
namespace Go.Proofs.YtcddgbllmobhdaaDoor
open Go.ChangeShapes Go.WideShapes Go.ChangeAt Go.RowKit
set_option linter.unusedVariables false

/-- What is asked, wherever it lies. -/
def RdK (w : World) (A : Option Addr) (ks : List (Int × Int)) : Prop :=
  ks = [] ∨ ∃ b o, A = some ⟨b, o, none⟩ ∧ ∀ i x y, ks[i]? = some (x, y) → w.cell? ⟨b, o + i * 2, none⟩ = some (.int .i64 x) ∧ w.cell? ⟨b, o + i * 2 + 1, none⟩ = some (.int .i64 y)
theorem RdK.below {w w' : World} {B : Nat} {A : Option Addr} {ks : List (Int × Int)} (h : RdK w A ks) (hb : Below B w w') (hB : w.heap.size ≤ B) : RdK w' A ks := by
  rcases h with h | ⟨b, o, e, h⟩
  · exact .inl h
  · exact .inr ⟨b, o, e, fun i x y hi => ⟨by rw [hb.cell (Nat.lt_of_lt_of_le (World.block_lt_of_cell? w _ (h i x y hi).1) hB)]; exact (h i x y hi).1, by rw [hb.cell (Nat.lt_of_lt_of_le (World.block_lt_of_cell? w _ (h i x y hi).2) hB)]; exact (h i x y hi).2⟩⟩
def Wide64 (ks : List (Int × Int)) : Prop := ∀ x y, (x, y) ∈ ks → -9223372036854775808 ≤ x ∧ x ≤ 9223372036854775807 ∧ -9223372036854775808 ≤ y ∧ y ≤ 9223372036854775807

section
variable {w w' : World} {b b' : Nat} {A : Option Addr} {cap : Nat} {l : List UInt8} {r : Rs} {k p : Nat} {bad : Bool}
theorem Rfr.other (h : Rfr w b A cap l k bad p) (g : w.grownBy w' (some b')) (hne : b ≠ b') (hA : ∀ ad, A = some ad → l ≠ [] → ad.block ≠ b') : Rfr w' b A cap l k bad p :=
  ⟨by rw [g.block b h.lt (fun e => hne (Option.some.inj e))]; exact h.blk, h.rd.grown g hA, h.ne, h.le⟩
theorem Rdr.other (h : Rdr w b A cap l r) (g : w.grownBy w' (some b')) (hne : b ≠ b') (hA : ∀ ad, A = some ad → l ≠ [] → ad.block ≠ b') : Rdr w' b A cap l r :=
  ⟨by rw [g.block b h.lt (fun e => hne (Option.some.inj e))]; exact h.blk, h.rd.grown g hA, h.ne, h.le⟩
theorem Rfr.below (h : Rfr w b A cap l k bad p) (hb : Below w.heap.size w w') : Rfr w' b A cap l k bad p :=
  ⟨by rw [hb.block _ h.lt]; exact h.blk, h.rd.below hb (Nat.le_refl _), h.ne, h.le⟩
end
theorem below_grown {W w w' : World} {b : Nat} (hb : Below W.heap.size W w) (hW : W.heap.size ≤ b) (g : w.grownBy w' (some b)) : Below W.heap.size W w' :=
  ⟨g.os.trans hb.os, g.tape.trans hb.tape, g.output.trans hb.output, Nat.le_trans hb.size g.size, fun k hk => (g.block k (Nat.lt_of_lt_of_le hk hb.size) (fun e => by have := Option.some.inj e; omega)).trans (hb.block k hk)⟩

/-- Both readers, at one stand. -/
structure Two (W : World) (b1 b2 : Nat) (A : Option Addr) (cap : Nat) (l : List UInt8) (r : Rs) (wx : World) : Prop where
  below : Below W.heap.size W wx
  rd : Rdr wx b1 A cap l r
  rf : ∃ k p, Tells r k r.bad p ∧ Rfr wx b2 A cap l k r.bad p
  n1 : W.heap.size ≤ b1
  n2 : W.heap.size ≤ b2
  ne : b1 ≠ b2
section
variable {W wx w1 w2 : World} {b1 b2 : Nat} {A : Option Addr} {cap : Nat} {l : List UInt8} {r r' : Rs}
theorem Two.le (h : Two W b1 b2 A cap l r wx) : r.at_ ≤ l.length := h.rd.le
/-- The program's reader has gone on, then the document's. -/
theorem Two.step (h : Two W b1 b2 A cap l r wx) (m : Mr wx b1 A cap l r' w1) (f : Mf w1 b2 A cap l r' w2) : Two W b1 b2 A cap l r' w2 := by
  obtain ⟨g, k, p, t, q⟩ := f
  exact ⟨below_grown (below_grown h.below h.n1 m.grown) h.n2 g, m.rdr.other g h.ne q.ne, ⟨k, p, t, q⟩, h.n1, h.n2, h.ne⟩
theorem Two.step' (h : Two W b1 b2 A cap l r wx) (f : Mf wx b2 A cap l r' w1) (m : Mr w1 b1 A cap l r' w2) : Two W b1 b2 A cap l r' w2 := by
  obtain ⟨g, k, p, t, q⟩ := f
  exact ⟨below_grown (below_grown h.below h.n2 g) h.n1 m.grown, m.rdr, ⟨k, p, t, q.other m.grown (Ne.symm h.ne) m.rdr.ne⟩, h.n1, h.n2, h.ne⟩
theorem Two.drew (h : Two W b1 b2 A cap l r wx) (n : Nat) : Two W b1 b2 A cap l r (wx.drewN n) := by
  obtain ⟨k, p, t, q⟩ := h.rf
  exact ⟨⟨h.below.os, h.below.tape, h.below.output, h.below.size, h.below.block⟩, h.rd.drew n, ⟨k, p, t, q.drew n⟩, h.n1, h.n2, h.ne⟩
theorem Two.drew1 (h : Two W b1 b2 A cap l r wx) : Two W b1 b2 A cap l r wx.drew := by
  obtain ⟨k, p, t, q⟩ := h.rf
  exact ⟨⟨h.below.os, h.below.tape, h.below.output, h.below.size, h.below.block⟩, ⟨h.rd.blk, ⟨h.rd.rd.le, h.rd.rd.nn, h.rd.rd.rd⟩, h.rd.ne, h.rd.le⟩, ⟨k, p, t, ⟨q.blk, ⟨q.rd.le, q.rd.nn, q.rd.rd⟩, q.ne, q.le⟩⟩, h.n1, h.n2, h.ne⟩
/-- The document's reader, when the program's has gone on. -/
theorem Two.rf' (h : Two W b1 b2 A cap l r wx) (m : Mr wx b1 A cap l r' w1) : ∃ k p, Tells r k r.bad p ∧ Rfr w1 b2 A cap l k r.bad p := by
  obtain ⟨k, p, t, q⟩ := h.rf
  exact ⟨k, p, t, q.other m.grown (Ne.symm h.ne) m.rdr.ne⟩
theorem Two.rd' (h : Two W b1 b2 A cap l r wx) (f : Mf wx b2 A cap l r' w1) : Rdr w1 b1 A cap l r := by
  obtain ⟨g, k, p, t, q⟩ := f
  exact h.rd.other g h.ne q.ne
end
theorem spot_ne {w : World} {N b : Nat} {A : Option Addr} {cap : Nat} {l : List UInt8} {k p : Nat} {bad : Bool} {q : Nat} (hS : w.heap[N]? = some (.cells #[.int .i64 (q : Nat), .int .i64 2] 61 (0, 0))) (h : Rfr w b A cap l k bad p) : N ≠ b := by
  intro e
  subst e
  have := hS.symm.trans h.blk
  simp at this
theorem pick_or (x : Int) : pick3 x = 0 ∨ pick3 x = 1 ∨ pick3 x = 2 := by have := pick3_lt x; omega

set_option maxHeartbeats 1000000 in
set_option maxRecDepth 100000 in
theorem wireReads_walk (A : Option Addr) (cap : Nat) (l : List UInt8) (AK : Option Addr) (ck : Nat) (ks : List (Int × Int)) (W : World) (hL : Laid W) (hr : RdS W A cap l) (hl : l.length ≤ 9223372036854775807)
    (hk : RdK W AK ks) (hkl : ks.length ≤ 9223372036854775807) (hw : Wide64 ks) :
    Calls Tryd.prog 4 #[.slice A l.length cap, .slice AK ks.length ck] W (Holds W) := by
  have CU := Lib.hid (up_wire W hL)
  have HL := Lib.hid hL
  clear hL
  by_cases h1 : 3000 < l.length
  · have hz : (3000 : Int) < (l.length : Int) := by omega
    go_enter Tryd.func4, Tryd.ntmps4
    go_wp2_with ((go_at_call 6; refine CU.out.mono ?_); rintro e w1 ⟨rfl, hb⟩)
    go_ret
    exact ⟨rfl, hb⟩
  by_cases h2 : 100 < ks.length
  · have hz1 : ¬ (3000 : Int) < (l.length : Int) := by omega
    have hz : (100 : Int) < (ks.length : Int) := by omega
    go_enter Tryd.func4, Tryd.ntmps4
    go_wp2_with ((go_at_call 6; refine CU.out.mono ?_); rintro e w1 ⟨rfl, hb⟩)
    go_ret
    exact ⟨rfl, hb⟩
  have hy1 : ¬ (3000 : Int) < (l.length : Int) := by omega
  have hy2 : ¬ (100 : Int) < (ks.length : Int) := by omega
  have HR := Lib.hid hr
  have HK := Lib.hid hk
  have HW := Lib.hid hw
  clear hr hk hw
  go_enter Tryd.func4, Tryd.ntmps4
  go_wp2_with fail
  refine CU.out.mono ?_
  rintro e w1 ⟨rfl, b1⟩
  have B1 := Lib.hid b1
  have C1 := Lib.hid (wireRead w1 A cap l (HR.out.below b1 (Nat.le_refl _)))
  clear b1 CU
  go_wp2_with fail
  refine C1.out.mono ?_
  rintro e w2 ⟨rfl, b2, r2⟩
  have hz2 : w1.heap.size < w2.heap.size := r2.lt
  have B2 := Lib.hid (B1.out.trans (b2.mono B1.out.size))
  have R2 := Lib.hid r2
  have hz1 := B1.out.size
  clear b2 r2 C1 B1
  have T0 : Hid (Two W w1.heap.size w2.heap.size A cap l ⟨0, false⟩ (w2.alloc (.cells #[.slice A l.length cap, .int .i64 0, .bool false, .int .i64 0] 37))) := Lib.hid
    ⟨B2.out.alloc B2.out.size _, (R2.out.below ((Below.refl _ _).alloc (Nat.le_refl _) _)), ⟨0, 0, ⟨rfl, fun _ => rfl, (fun e => by cases e)⟩, ⟨heap_alloc_new w2 _, R2.out.rd.alloc _, fun ad ha hne e => by
        cases l with
        | nil => exact hne rfl
        | cons c l =>
          have h1 := World.block_lt_of_cell? w2 _ (R2.out.rd.rd ad ha 0 c rfl)
          rw [show (ad.add 0).block = ad.block by simp [Addr.add]] at h1
          omega, Nat.zero_le _⟩⟩, hz1, by omega, by omega⟩
  clear B2 R2
  go_wp2_with fail
  generalize w1.heap.size = b1 at T0 ⊢
  generalize w2.heap.size = b2 at T0 ⊢
  go_loopg [8] (ks.length) (fun g s8 wx => ∃ (i : Nat) (r : Rs), i + g = ks.length ∧ s8 = .int .i64 (i : Nat) ∧ Hid (Two W b1 b2 A cap l r wx))
  case atStart => exact ⟨0, _, by omega, rfl, T0⟩
  case round =>
    clear T0
    obtain ⟨i, r, hig, rfl, HT⟩ := hrel
    cases gk with
    | zero =>
      have hiz : ¬ (i : Int) < (ks.length : Int) := by omega
      obtain ⟨k, p, tt, q⟩ := HT.out.rf
      have hrl := HT.out.rd.le
      cases hE : rsEnd l r with
      | none =>
        have C1 := wireEnd wr b1 A cap l r HT.out.rd (by omega)
        rw [hE] at C1
        have C1 := Lib.hid C1
        have Q := Lib.hid q
        have TT := Lib.hid tt
        have HE := Lib.hid hE
        clear q tt hE
        go_wp2_with fail
        refine C1.out.mono ?_
        rintro e wa ⟨rfl, ba⟩
        have C2 := refReadEnd wa b2 A cap l r k p (Q.out.below ba) TT.out (by omega) hrl
        rw [HE.out] at C2
        have C2 := Lib.hid C2
        have BA := Lib.hid (HT.out.below.trans (ba.mono HT.out.below.size))
        clear ba C1
        go_wp2_with fail
        refine C2.out.mono ?_
        rintro e wb ⟨rfl, gb⟩
        have BB := Lib.hid (below_grown BA.out HT.out.n2 gb)
        unfold endZ
        clear gb C2
        go_wp2_with fail
        go_ret
        exact ⟨rfl, BB.out⟩
      | some j =>
        have C1 := wireEnd wr b1 A cap l r HT.out.rd (by omega)
        rw [hE] at C1
        have C1 := Lib.hid C1
        have Q := Lib.hid q
        have TT := Lib.hid tt
        have HE := Lib.hid hE
        clear q tt hE
        go_wp2_with fail
        refine C1.out.mono ?_
        rintro e wa ⟨N, rfl, sa, ba⟩
        have qa := Q.out.below ba
        have C2 := refReadEnd wa b2 A cap l r k p qa TT.out (by omega) hrl
        rw [HE.out] at C2
        have C2 := Lib.hid C2
        have BA := Lib.hid (HT.out.below.trans (ba.mono HT.out.below.size))
        have HNE := Lib.hid (spot_ne sa qa)
        have SA := Lib.hid sa
        have RA := Lib.hid (HT.out.rd.below ba)
        have QA := Lib.hid qa
        clear ba sa qa C1
        go_wp2_with fail
        refine C2.out.mono ?_
        rintro e wb ⟨rfl, gb⟩
        have BB := Lib.hid (below_grown BA.out HT.out.n2 gb)
        have sb := (gb.block N (lt_of_block SA.out) (fun e => HNE.out (Option.some.inj e))).trans SA.out
        have RB := Lib.hid (RA.out.other gb HT.out.ne QA.out.ne)
        have C3 := Lib.hid (isSpot N (j : Nat) 2 wb (HL.out.below BB.out) sb)
        unfold endZ
        clear gb C2 sb
        go_wp2_with fail
        refine C3.out.mono ?_
        rintro e wc ⟨rfl, bc⟩
        have BC := Lib.hid (BB.out.trans (bc.mono BB.out.size))
        have C4 := wireEnd wc b1 A cap l r (RB.out.below bc) (by omega)
        rw [HE.out] at C4
        have C4 := Lib.hid C4
        clear bc C3
        go_wp2_with fail
        refine C4.out.mono ?_
        rintro e wd ⟨N', rfl, sd, bd⟩
        have BD := Lib.hid (BC.out.trans (bd.mono BC.out.size))
        have C5 := Lib.hid (isSpot N' (j : Nat) 2 wd (HL.out.below BD.out) sd)
        clear sd bd C4
        go_wp2_with fail
        refine C5.out.mono ?_
        rintro e we ⟨rfl, bE⟩
        have BE := Lib.hid (BD.out.trans (bE.mono BD.out.size))
        clear bE C5
        go_wp2_with fail
        go_ret
        exact ⟨rfl, BE.out⟩
    | succ g =>
      have hik : i < ks.length := by omega
      have hiz : (i : Int) < (ks.length : Int) := by omega
      have hi0 : (0 : Int) ≤ (i : Int) := by omega
      obtain ⟨x, y, hxy⟩ : ∃ x y, ks[i]? = some (x, y) := ⟨ks[i].1, ks[i].2, List.getElem?_eq_getElem hik⟩
      obtain ⟨hx0, hx1, hy0, hy1'⟩ := HW.out x y (List.mem_of_getElem? hxy)
      have hkw := HK.out
      rcases hkw with h | ⟨bk, ok, rfl, hc⟩
      · rw [h] at hik; simp at hik
      obtain ⟨k0, k1⟩ := hc i x y hxy
      have HKW : Hid (bk < W.heap.size) := Lib.hid (World.block_lt_of_cell? W _ k0)
      rw [← HT.out.below.cell (p := ⟨bk, ok + i * 2, none⟩) HKW.out] at k0
      rw [← HT.out.below.cell (p := ⟨bk, ok + i * 2 + 1, none⟩) HKW.out] at k1
      have CP := lawPick x wr hx0 hx1
      clear hxy hc
      rcases pick_or x with hq | hq | hq
      · rw [hq] at CP
        have CP := Lib.hid CP
        obtain ⟨k, p, t, q⟩ := HT.out.rf
        have C1 := Lib.hid (wireReadNumber wr b1 A cap l r HT.out.rd (by omega))
        clear t q
        go_wp2_with ((go_at_call 14; refine CP.out.mono ?_); rintro e w' ⟨rfl, rfl⟩)
        refine C1.out.mono ?_
        rintro e wa ⟨rfl, ma⟩
        obtain ⟨k', p', t', q'⟩ := HT.out.rf' ma
        have C2 := Lib.hid (refReadNumber wa b2 A cap l r k' p' q' t' (by omega))
        have MA := Lib.hid ma
        clear ma q' t' C1
        go_wp2_with fail
        refine C2.out.mono ?_
        rintro e wb ⟨rfl, mb⟩
        have HT2 := Lib.hid (HT.out.step MA.out mb)
        clear mb C2
        go_wp2_with fail
        go_roundg g
        case rel => exact ⟨i + 1, _, by omega, by go_num, HT2⟩
        case measure => omega
      · rw [hq] at CP
        have CP := Lib.hid CP
        have C1 := Lib.hid (wireReadWhole wr b1 A cap l r HT.out.rd (by omega))
        have hrl := HT.out.rd.le
        go_wp2_with ((go_at_call 14; refine CP.out.mono ?_); rintro e w' ⟨rfl, rfl⟩)
        refine C1.out.mono ?_
        rintro e wa ⟨rfl, ma⟩
        obtain ⟨k', p', t', q'⟩ := HT.out.rf' ma
        have C2 := Lib.hid (refReadWhole wa b2 A cap l r k' p' q' t' (by omega) hrl)
        have MA := Lib.hid ma
        clear ma q' t' C1
        go_wp2_with fail
        refine C2.out.mono ?_
        rintro e wb ⟨rfl, mb⟩
        have HT2 := Lib.hid (HT.out.step MA.out mb)
        clear mb C2
        go_wp2_with fail
        go_roundg g
        case rel => exact ⟨i + 1, _, by omega, by go_num, HT2⟩
        case measure => omega
      · rw [hq] at CP
        have CP := Lib.hid CP
        have hrl := HT.out.rd.le
        obtain ⟨k', p', t', q'⟩ := HT.out.drew1.rf
        have D1 := Lib.hid (wireReadText wr.drew b1 A cap l r y HT.out.drew1.rd (by omega) hy0 hy1')
        have D2 := Lib.hid (refReadText wr.drew b2 A cap l r y k' p' q' t' (by omega) hrl hy0 hy1')
        clear t' q'
        go_wp2_with ((go_at_call 14; refine CP.out.mono ?_); rintro e w' ⟨rfl, rfl⟩)
        have kd : wr.drew.cell? ⟨bk, ok + i * 2 + 1, none⟩ = some (.int .i64 y) := k1
        have hn1 : some bk ≠ some b1 := fun e => by have := Option.some.inj e; have := HT.out.n1; have := HKW.out; omega
        have hn2 : some bk ≠ some b2 := fun e => by have := Option.some.inj e; have := HT.out.n2; have := HKW.out; omega
        have HN1 := Lib.hid hn1
        have HN2 := Lib.hid hn2
        clear hn1 hn2
        go_region_held (fun w' => w'.cell? ⟨bk, ok + i * 2 + 1, none⟩ = some (.int .i64 y))
          (first | assumption | go_keep)
          (first
            | ((go_at_call 19; with_reducible refine D3.out.mono ?_); rintro e wb ⟨rfl, mb⟩; have HT2 := Lib.hid (HT.out.drew1.step' fa mb); have kb : wb.cell? ⟨bk, ok + i * 2 + 1, none⟩ = some (.int .i64 y) := mb.grown.cell ka HN1.out)
            | ((go_at_call 19; with_reducible refine D1.out.mono ?_); rintro e wa ⟨rfl, ma⟩; obtain ⟨k2, p2, t2, q2⟩ := HT.out.drew1.rf' ma; have D4 := Lib.hid (refReadText wa b2 A cap l r y k2 p2 q2 t2 (by omega) hrl hy0 hy1'); have ka : wa.cell? ⟨bk, ok + i * 2 + 1, none⟩ = some (.int .i64 y) := ma.grown.cell kd HN1.out; clear t2 q2)
            | ((go_at_call 20; with_reducible refine D4.out.mono ?_); rintro e wb ⟨rfl, fb⟩; have HT2 := Lib.hid (HT.out.drew1.step ma fb); have kb : wb.cell? ⟨bk, ok + i * 2 + 1, none⟩ = some (.int .i64 y) := fb.1.cell ka HN2.out)
            | ((go_at_call 20; with_reducible refine D2.out.mono ?_); rintro e wa ⟨rfl, fa⟩; have D3 := Lib.hid (wireReadText wa b1 A cap l r y (HT.out.drew1.rd' fa) (by omega) hy0 hy1'); have ka : wa.cell? ⟨bk, ok + i * 2 + 1, none⟩ = some (.int .i64 y) := fa.1.cell kd HN2.out))
        all_goals
          go_wp2_with fail
          go_roundg g
          case rel => exact ⟨i + 1, _, by omega, by go_num, HT2⟩
          case measure => omega
end Go.Proofs.YtcddgbllmobhdaaDoor
