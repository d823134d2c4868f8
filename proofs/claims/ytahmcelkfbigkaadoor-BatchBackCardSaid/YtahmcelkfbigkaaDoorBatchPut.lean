/-
  Layer 7 (batch): Put: a batch's bytes, or the error ErrArg.
-/
import Derived.Test.YtahmcelkfbigkaaDoorBatchMay2
namespace Go.Proofs.YtahmcelkfbigkaaDoor
open Go.ChangeShapes Go.WideShapes Go.ChangeAt Go.RowKit
set_option linter.unusedVariables false

def PutBad (w : World) (e : Ending) (w' : World) : Prop := e = .returned (.tuple #[.slice none 0 0, .iface 32 (.int .i64 1)]) ∧ Below w.heap.size w w'
def PutGood (w : World) (l : List UInt8) (e : Ending) (w' : World) : Prop := ∃ v, e = .returned (.tuple #[v, .nilIface]) ∧ OB w' w.heap.size v l ∧ Below w.heap.size w w'
/-- Where the writing of a batch stands. -/
structure Pb (w : World) (b : Bt) (A : Option Addr) (c : Nat) (L : List UInt8) (v : Value) (wr : World) : Prop where
  own : OB wr (w.heap.size + 1) v L
  bt : BtB wr w.heap.size b.seq b.start A b.rows.length c
  below : Below w.heap.size w wr
theorem Pb.size {w wr : World} {b : Bt} {A : Option Addr} {c : Nat} {L : List UInt8} {v : Value} (h : Pb w b A c L v wr) : w.heap.size + 1 ≤ wr.heap.size := h.bt.lt
theorem Pb.on {w wr w' : World} {b : Bt} {A : Option Addr} {c : Nat} {L L' : List UInt8} {v v' : Value} (h : Pb w b A c L v wr) (o : OB w' (w.heap.size + 1) v' L') (hb : Below (w.heap.size + 1) wr w') : Pb w b A c L' v' w' :=
  ⟨o, h.bt.keep hb (Nat.lt_succ_self _), h.below.trans (hb.mono (Nat.le_succ _))⟩
theorem rowsL_len : ∀ rows : List Rw, (∀ r ∈ rows, InR r) → (rowsL rows).length ≤ 1100 * rows.length
  | [], _ => by simp [rowsL]
  | r :: rows, h => by
    have h1 := rowsL_len rows (fun x hx => h x (by simp [hx]))
    have hr := h r (by simp)
    have h2 := rowL_len hr.fit (by have := hr.key; omega) hr.kind0 hr.kind1 (by have := hr.len; omega)
    have h3 := hr.key
    have h4 := hr.len
    have e : rowsL (r :: rows) = rowL r ++ rowsL rows := by simp [rowsL]
    rw [e, List.length_append, List.length_cons]
    omega
theorem putL_len {b : Bt} (h : InB b) : (putL b).length ≤ 230000 := by
  have h1 := rowsL_len b.rows h.rows
  have h2 := enc_length b.seq.toNat (by have := h.seq1; omega)
  have h3 := enc_length b.start.toNat (by have := h.start1; omega)
  have h4 := enc_length b.rows.length (by have := h.len; omega)
  have h5 := h.len
  unfold putL putHead
  simp only [List.length_append]
  omega

set_option maxHeartbeats 2000000 in
set_option maxRecDepth 100000 in
theorem batchPut (b : Bt) (A : Option Addr) (c : Nat) (w : World) (hL : Laid w) (hr : RdR w A b.rows) (hz : SizedR b.rows) (hf : ∀ r ∈ b.rows, FitR r) (hm : mayOk b = true) :
    Calls Tryd.prog 8 #[btVal b.seq b.start A b.rows.length c] w (PutGood w (putL b)) := by
  have hI := mayOk_in hf hm
  obtain ⟨s, hs⟩ : ∃ s : Nat, b.seq = (s : Int) := ⟨b.seq.toNat, by have := hI.seq0; omega⟩
  obtain ⟨t, ht⟩ : ∃ t : Nat, b.start = (t : Int) := ⟨b.start.toNat, by have := hI.start0; omega⟩
  have hall := putL_len hI
  have hpl : putL b = enc s ++ enc t ++ enc b.rows.length ++ rowsL b.rows := by unfold putL putHead; rw [hs, ht, Int.toNat_natCast, Int.toNat_natCast]
  have hs1 : s ≤ 2147483647 := by have := hI.seq1; omega
  have ht1 : t ≤ 1099511627776 := by have := hI.start1; omega
  have hn := hI.len
  have T0 := Lib.hid (BtB.new w b.seq b.start A b.rows.length c)
  have b0 := Lib.hid ((Below.refl w.heap.size w).alloc (Nat.le_refl _) (.cells #[.int .i64 b.seq, .int .i64 b.start, .slice A b.rows.length c] 24))
  have CM := batchMay b A c (w.alloc (.cells #[.int .i64 b.seq, .int .i64 b.start, .slice A b.rows.length c] 24)) (hL.alloc _) (hr.alloc _) hz
  rw [hm] at CM
  have HI := Lib.hid hI
  have HR := Lib.hid hr
  generalize putL b = LL at hall hpl ⊢
  have HP := Lib.hid hpl
  have z1 := enc_length s (by omega)
  have z2 := enc_length t (by omega)
  have z3 := enc_length b.rows.length (by omega)
  unfold btVal at CM ⊢
  rw [hs, ht] at CM T0 b0 ⊢
  have CM := Lib.hid CM
  have HST := Lib.hid (And.intro hs ht)
  clear hL hr hz hf hm hI hpl hs ht
  go_enter Tryd.func8, Tryd.ntmps8
  go_wp2_with fail
  refine CM.out.mono ?_
  rintro e w1 ⟨rfl, b1⟩
  have b1 : Below (w.heap.size + 1) _ w1 := b1.mono (show w.heap.size + 1 ≤ _ by simp)
  have T1 := T0.out.keep b1 (Nat.lt_succ_self _)
  have H1 : Pb w b A c [] (.slice none 0 0) w1 := ⟨OB.nil _ _, by rw [HST.out.1, HST.out.2]; exact T1, b0.out.trans (b1.mono (Nat.le_succ _))⟩
  have HH1 := Lib.hid H1
  have c0 := T1.c0
  have C2 := Lib.hid (batchNumber _ (.slice none 0 0) [] s w1 H1.own H1.size (by simp) (by omega))
  clear b1 T1 H1 CM T0 b0
  go_wp2_with fail
  refine C2.out.mono ?_
  rintro e w2 ⟨v2, rfl, o2, b2⟩
  rw [List.nil_append] at o2
  have H2 := HH1.out.on o2 b2
  generalize hl2 : enc s = L2 at H2 z1
  have HL2 := Lib.hid hl2
  have HH2 := Lib.hid H2
  have c1 := H2.bt.c1
  rw [HST.out.2] at c1
  have C3 := Lib.hid (batchNumber _ v2 L2 t w2 H2.own H2.size (by omega) (by omega))
  clear o2 b2 C2 H2 hl2 HH1 c0
  go_wp2_with fail
  refine C3.out.mono ?_
  rintro e w3 ⟨v3, rfl, o3, b3⟩
  have H3 := HH2.out.on o3 b3
  generalize hl3 : L2 ++ enc t = L3 at H3
  have y3 : L3.length ≤ 20 := by rw [← hl3, List.length_append]; omega
  have HL3 := Lib.hid hl3
  have HH3 := Lib.hid H3
  have c2 := H3.bt.c2
  have C4 := Lib.hid (batchNumber _ v3 L3 b.rows.length w3 H3.own H3.size (by omega) (by omega))
  clear o3 b3 C3 H3 hl3 HH2 c1
  go_wp2_with fail
  refine C4.out.mono ?_
  rintro e w4 ⟨v4, rfl, o4, b4⟩
  have H4 := HH3.out.on o4 b4
  generalize hl4 : L3 ++ enc b.rows.length = L4 at H4
  have HA : Hid (LL = L4 ++ rowsL b.rows) := Lib.hid (by rw [HP.out, HL2.out, HL3.out, hl4])
  have HH4 := Lib.hid H4
  have c2' := H4.bt.c2
  clear o4 b4 C4 H4 hl4 HH3 c2 HL2 HL3 HP z1 z2 z3 y3
  go_wp2_with fail
  go_loopg [4, 30] (b.rows.length) (fun g s4 s30 wx => ∃ (i : Nat) (acc : List UInt8), i + g = b.rows.length ∧ s30 = .int .i64 i ∧ Hid (Pb w b A c acc s4 wx ∧ LL = acc ++ rowsL (b.rows.drop i)))
  case atStart => exact ⟨0, L4, by omega, rfl, Lib.hid ⟨HH4.out, HA.out⟩⟩
  case round =>
    clear HH4 HA c2'
    obtain ⟨i, acc, hig, rfl, HG⟩ := hrel
    cases gk with
    | zero =>
      have e1 : decide ((i : Int) < (b.rows.length : Int)) = false := decide_eq_false (by omega)
      have e2 : decide (i < b.rows.length) = false := decide_eq_false (by omega)
      have HE : Hid (LL = acc) := Lib.hid (by rw [HG.out.2, List.drop_eq_nil_of_le (by omega)]; simp [rowsL])
      go_wp2_with fail
      go_ret2
      exact ⟨_, rfl, by rw [HE.out]; exact owns_mono HG.out.1.own (Nat.le_succ _), HG.out.1.below⟩
    | succ g =>
      have hlt : i < b.rows.length := by omega
      have hltz : (i : Int) < (b.rows.length : Int) := by omega
      obtain ⟨r, hri⟩ : ∃ r, b.rows[i]? = some r := ⟨_, List.getElem?_eq_getElem hlt⟩
      have hR := HR.out.below HG.out.1.below (Nat.le_refl _)
      obtain ⟨bb, o, B, c', rfl, ha⟩ := hR.at hri
      have hin := HI.out.rows r (List.mem_of_getElem? hri)
      obtain ⟨k, hk⟩ : ∃ k : Nat, r.kind = (k : Int) := ⟨r.kind.toNat, by have := hin.kind0; omega⟩
      have p0 := ha.p0
      have p1 := ha.p1
      have p2 := ha.p2
      have p3 := ha.p3
      have p4 := ha.p4
      have p5 := ha.p5
      have p6 := ha.p6
      have p7 := ha.p7
      have CB := batchRowBytes r B c' k (wr.alloc (rowObj r B c')) hk (by have := hin.kind1; omega) (ha.bk.alloc _) hin.fit (by have := hin.key; omega) (by have := hin.len; omega)
      unfold rowVal rowObj at CB
      have CB := Lib.hid CB
      have hrl := rowL_len hin.fit (by have := hin.key; omega) hin.kind0 hin.kind1 (by have := hin.len; omega)
      have hk3 := hin.key
      have hb3 := hin.len
      have HX : Hid (LL = (acc ++ rowL r) ++ rowsL (b.rows.drop (i + 1))) := Lib.hid (by
        obtain ⟨h1, h2⟩ := List.getElem?_eq_some_iff.1 hri
        rw [HG.out.2, List.drop_eq_getElem_cons h1, h2]
        simp [rowsL])
      have hac : acc.length ≤ 230000 := by have := congrArg List.length HG.out.2; rw [List.length_append] at this; omega
      have HO := Lib.hid (HG.out.1.own.alloc (.cells #[.string r.key, .int .i64 r.kind, .int .u64 (r.many : Nat), .int .i64 r.sum, .int .i64 r.least, .int .i64 r.most, .bool r.over, .slice B r.bks.length c'] 44))
      have hsz := HG.out.1.size
      have BA := Lib.hid ((Below.refl (w.heap.size + 1) wr).alloc hsz (.cells #[.string r.key, .int .i64 r.kind, .int .u64 (r.many : Nat), .int .i64 r.sum, .int .i64 r.least, .int .i64 r.most, .bool r.over, .slice B r.bks.length c'] 44))
      clear ha hR hin hk hri
      go_wp2_with fail
      refine CB.out.mono ?_
      rintro e w5 ⟨v5, rfl, o5, b5⟩
      obtain ⟨A5, c5, rfl, rd5⟩ := o5.rd
      have b5' : Below (w.heap.size + 1) wr w5 := BA.out.trans (b5.mono (Nat.le_trans hsz (by simp)))
      obtain ⟨v6, w6, r6, o6, g6⟩ := ob_row (HO.out.below b5) rd5 (by omega) (Nat.le_trans hsz b5'.size)
      have R6 := Lib.hid r6
      have H6 := Lib.hid (HG.out.1.on o6 (b5'.trans g6.below))
      clear o5 rd5 b5 b5' r6 o6 g6 CB HO BA p0 p1 p2 p3 p4 p5 p6 p7
      go_wp2_with (at_builtin; refine wpList_append_two rfl (.tmp 34) (.tmp 36) 27 27 rfl _ _ _ rfl rfl R6.out ?_)
      go_roundg g
      case rel => exact ⟨i + 1, acc ++ rowL r, by omega, by go_num, Lib.hid ⟨H6.out, HX.out⟩⟩
      case measure => omega

set_option maxRecDepth 100000 in
theorem batchPutBad (b : Bt) (A : Option Addr) (c : Nat) (w : World) (hL : Laid w) (hr : RdR w A b.rows) (hz : SizedR b.rows) (hm : mayOk b = false) :
    Calls Tryd.prog 8 #[btVal b.seq b.start A b.rows.length c] w (PutBad w) := by
  have b0 := Lib.hid ((Below.refl w.heap.size w).alloc (Nat.le_refl _) (.cells #[.int .i64 b.seq, .int .i64 b.start, .slice A b.rows.length c] 24))
  have CM := batchMay b A c (w.alloc (.cells #[.int .i64 b.seq, .int .i64 b.start, .slice A b.rows.length c] 24)) (hL.alloc _) (hr.alloc _) hz
  rw [hm] at CM
  unfold btVal at CM ⊢
  have CM := Lib.hid CM
  clear hL hr hz hm
  go_enter Tryd.func8, Tryd.ntmps8
  go_wp2_with fail
  refine CM.out.mono ?_
  rintro e w1 ⟨rfl, b1⟩
  have B1 := Lib.hid (b0.out.trans (b1.mono (by simp)))
  clear b1 CM b0
  go_wp2_with fail
  go_ret2
  exact ⟨rfl, B1.out⟩
end Go.Proofs.YtahmcelkfbigkaaDoor
