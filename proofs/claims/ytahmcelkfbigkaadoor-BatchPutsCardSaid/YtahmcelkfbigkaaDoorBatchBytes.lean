/-
  Layer 7 (batch): number, whole, overNumber, rowBytes: a row's bytes.
-/
import Derived.Test.YtahmcelkfbigkaaDoorBatchMem
import Derived.Deep.LoopGhost
namespace Go.Proofs.YtahmcelkfbigkaaDoor
open Go.ChangeShapes Go.WideShapes Go.ChangeAt Go.RowKit
set_option linter.unusedVariables false

theorem RowB.keep {w w' : World} {g N : Nat} {r : Rw} {B : Option Addr} {c : Nat} (h : RowB w g r B c) (hb : Below N w w') (hg : g < N) : RowB w' g r B c := ⟨by rw [hb.block _ hg]; exact h.blk⟩
theorem BtB.keep {w w' : World} {g N : Nat} {s t : Int} {A : Option Addr} {n c : Nat} (h : BtB w g s t A n c) (hb : Below N w w') (hg : g < N) : BtB w' g s t A n c := ⟨by rw [hb.block _ hg]; exact h.blk⟩

theorem batchNumber (B : Nat) (v : Value) (l : List UInt8) (n : Nat) (w : World) (ho : OB w B v l) (hB : B ≤ w.heap.size) (hl : l.length ≤ 900000) (hn : n < 18446744073709551616) :
    Calls Tryd.prog 15 #[v, .int .u64 (n : Nat)] w (Bytes B (l ++ enc n) w) := by
  have C := Lib.hid (wireNumber none 0 [] n w (RdS.nil w) (by simp) hn)
  have HO := Lib.hid ho
  have HB := Lib.hid hB
  have hle := enc_length n hn
  clear ho hB
  go_enter Tryd.func15, Tryd.ntmps15
  go_wp2_with fail
  refine C.out.mono ?_
  rintro e w1 ⟨v1, rfl, o1, b1⟩
  rw [List.nil_append] at o1
  obtain ⟨A1, c1, rfl, rd1⟩ := o1.rd
  obtain ⟨v2, w2, r2, o2, g2⟩ := ob_row (HO.out.below b1) rd1 (by omega) (Nat.le_trans HB.out b1.size)
  have R2 := Lib.hid r2
  have O2 := Lib.hid o2
  have B2 := Lib.hid ((b1.mono HB.out).trans g2.below)
  clear r2 o2 g2 o1 rd1 b1 C hle
  go_wp2_with (at_builtin; refine wpList_append_two rfl (.tmp 5) (.tmp 7) 27 27 rfl _ _ _ rfl rfl R2.out ?_)
  go_ret
  exact ⟨_, rfl, O2.out, B2.out⟩
theorem batchWhole (B : Nat) (v : Value) (l : List UInt8) (n : Int) (w : World) (ho : OB w B v l) (hB : B ≤ w.heap.size) (hl : l.length ≤ 900000) (h0 : -9223372036854775808 ≤ n) (h1 : n ≤ 9223372036854775807) :
    Calls Tryd.prog 32 #[v, .int .i64 n] w (Bytes B (l ++ enc (foldN n)) w) := by
  have C := Lib.hid (wireWhole none 0 [] n w (RdS.nil w) (by simp) h0 h1)
  have HO := Lib.hid ho
  have HB := Lib.hid hB
  have hle := enc_length (foldN n) (fold_lt h0 h1)
  clear ho hB
  go_enter Tryd.func32, Tryd.ntmps32
  go_wp2_with fail
  refine C.out.mono ?_
  rintro e w1 ⟨v1, rfl, o1, b1⟩
  rw [List.nil_append] at o1
  obtain ⟨A1, c1, rfl, rd1⟩ := o1.rd
  obtain ⟨v2, w2, r2, o2, g2⟩ := ob_row (HO.out.below b1) rd1 (by omega) (Nat.le_trans HB.out b1.size)
  have R2 := Lib.hid r2
  have O2 := Lib.hid o2
  have B2 := Lib.hid ((b1.mono HB.out).trans g2.below)
  clear r2 o2 g2 o1 rd1 b1 C hle
  go_wp2_with (at_builtin; refine wpList_append_two rfl (.tmp 5) (.tmp 7) 27 27 rfl _ _ _ rfl rfl R2.out ?_)
  go_ret
  exact ⟨_, rfl, O2.out, B2.out⟩
theorem batchOver (b : Bool) (w : World) : Calls Tryd.prog 33 #[.bool b] w (Num6 (overN b) w) := by
  cases b with
  | true =>
    go_enter Tryd.func33, Tryd.ntmps33
    go_wp2
    go_ret
    exact ⟨rfl, rfl⟩
  | false =>
    go_enter Tryd.func33, Tryd.ntmps33
    go_wp2
    go_ret
    exact ⟨rfl, rfl⟩

theorem bksL_len : ∀ l : List Nat, (∀ n ∈ l, n < 18446744073709551616) → (bksL l).length ≤ 10 * l.length
  | [], _ => by simp [bksL]
  | n :: l, h => by
    have h1 := bksL_len l (fun m hm => h m (by simp [hm]))
    have h2 := enc_length n (h n (by simp))
    have e : bksL (n :: l) = enc n ++ bksL l := by simp [bksL]
    rw [e, List.length_append, List.length_cons]
    omega
theorem encT_len (s : ByteArray) (hs : s.size ≤ 5000) : (encT s).length ≤ 10 + s.size := by
  have h1 := enc_length s.size (by omega)
  have : s.data.toList.length = s.size := by simp
  unfold encT
  rw [List.length_append]
  omega
theorem rowHead_len {r : Rw} (hf : FitR r) (hs : r.key.size ≤ 2000) (hk0 : 0 ≤ r.kind) (hk : r.kind ≤ 3) (hl : r.bks.length ≤ 1000) : (rowHead r).length ≤ 80 + r.key.size := by
  have h1 := encT_len r.key (by omega)
  have h2 := enc_length r.kind.toNat (by omega)
  have h3 := enc_length r.many hf.many
  have h4 := enc_length _ (fold_lt hf.sum0 hf.sum1)
  have h5 := enc_length _ (fold_lt hf.least0 hf.least1)
  have h6 := enc_length _ (fold_lt hf.most0 hf.most1)
  have h7 := enc_length (overN r.over) (by have := overN_lt r.over; omega)
  have h8 := enc_length r.bks.length (by omega)
  unfold rowHead
  simp only [List.length_append]
  omega
theorem rowL_len {r : Rw} (hf : FitR r) (hs : r.key.size ≤ 2000) (hk0 : 0 ≤ r.kind) (hk : r.kind ≤ 3) (hl : r.bks.length ≤ 1000) : (rowL r).length ≤ 80 + r.key.size + 10 * r.bks.length := by
  have h1 := rowHead_len hf hs hk0 hk hl
  have h2 := bksL_len r.bks hf.bks
  unfold rowL
  rw [List.length_append]
  omega

/-- Where the writing of a row stands. -/
structure Rb (w : World) (r : Rw) (B : Option Addr) (c : Nat) (L : List UInt8) (v : Value) (wr : World) : Prop where
  own : OB wr (w.heap.size + 1) v L
  row : RowB wr w.heap.size r B c
  below : Below w.heap.size w wr
theorem Rb.size {w wr : World} {r : Rw} {B : Option Addr} {c : Nat} {L : List UInt8} {v : Value} (h : Rb w r B c L v wr) : w.heap.size + 1 ≤ wr.heap.size := h.row.lt
theorem Rb.on {w wr w' : World} {r : Rw} {B : Option Addr} {c : Nat} {L L' : List UInt8} {v v' : Value} (h : Rb w r B c L v wr) (o : OB w' (w.heap.size + 1) v' L') (b : Below (w.heap.size + 1) wr w') : Rb w r B c L' v' w' :=
  ⟨o, h.row.keep b (Nat.lt_succ_self _), h.below.trans (b.mono (Nat.le_succ _))⟩

set_option maxHeartbeats 1000000 in
set_option maxRecDepth 100000 in
theorem batchRowBytes (r : Rw) (B : Option Addr) (c : Nat) (k : Nat) (w : World) (hk : r.kind = (k : Int)) (hk3 : k ≤ 3) (hn : RdN w B c r.bks) (hf : FitR r) (hs : r.key.size ≤ 2000) (hl : r.bks.length ≤ 1000) :
    Calls Tryd.prog 16 #[rowVal r B c] w (Bytes w.heap.size (rowL r) w) := by
  have R0 := Lib.hid (RowB.new w r B c)
  have b0 := Lib.hid ((Below.refl w.heap.size w).alloc (Nat.le_refl _) (rowObj r B c))
  have HN := Lib.hid hn
  have HF := Lib.hid hf
  have hall := rowL_len hf hs (by omega) (by omega) hl
  have hrl : rowL r = rowHead r ++ bksL r.bks := rfl
  have hrh : rowHead r = encT r.key ++ enc k ++ enc r.many ++ enc (foldN r.sum) ++ enc (foldN r.least) ++ enc (foldN r.most) ++ enc (overN r.over) ++ enc r.bks.length := by unfold rowHead; rw [hk, Int.toNat_natCast]
  generalize rowL r = LL at hall hrl ⊢
  have HRL := Lib.hid hrl
  have HRH := Lib.hid hrh
  have s1 := encT_len r.key (by omega)
  have s2 := enc_length k (by omega)
  have s3 := enc_length r.many hf.many
  have s4 := enc_length _ (fold_lt hf.sum0 hf.sum1)
  have s5 := enc_length _ (fold_lt hf.least0 hf.least1)
  have s6 := enc_length _ (fold_lt hf.most0 hf.most1)
  have s7 := enc_length (overN r.over) (by have := overN_lt r.over; omega)
  have s8 := enc_length r.bks.length (by omega)
  have C1 := Lib.hid (fun w' => wireText none 0 [] r.key w' (RdS.nil w') (by simp) hs)
  have HK := Lib.hid hk
  clear hn hf hrl hrh hk
  unfold rowVal
  go_enter Tryd.func16, Tryd.ntmps16
  go_wp2_with fail
  refine (C1.out _).mono ?_
  rintro e w1 ⟨v1, rfl, o1, b1⟩
  rw [List.nil_append] at o1
  have b1 : Below (w.heap.size + 1) (w.alloc (rowObj r B c)) w1 := b1.mono (show w.heap.size + 1 ≤ _ by simp)
  have H1 : Rb w r B c (encT r.key) v1 w1 := ⟨owns_mono o1 (by simp), R0.out.keep b1 (Nat.lt_succ_self _), b0.out.trans (b1.mono (Nat.le_succ _))⟩
  generalize hl1 : encT r.key = L1 at H1 s1
  have HL1 := Lib.hid hl1
  have HH1 := Lib.hid H1
  have c1 := H1.row.c1
  rw [HK.out] at c1
  have C2 := Lib.hid (batchNumber _ v1 L1 k w1 H1.own H1.size (by omega) (by omega))
  clear o1 b1 C1 H1 hl1 R0 b0
  go_wp2_with fail
  refine C2.out.mono ?_
  rintro e w2 ⟨v2, rfl, o2, b2⟩
  have H2 := HH1.out.on o2 b2
  generalize hl2 : L1 ++ enc k = L2 at H2
  have z2 : L2.length ≤ 20 + r.key.size := by rw [← hl2, List.length_append]; omega
  have HL2 := Lib.hid hl2
  have HH2 := Lib.hid H2
  have c2 := H2.row.c2
  have C3 := Lib.hid (batchNumber _ v2 L2 r.many w2 H2.own H2.size (by omega) HF.out.many)
  clear o2 b2 C2 H2 hl2 HH1 c1
  go_wp2_with fail
  refine C3.out.mono ?_
  rintro e w3 ⟨v3, rfl, o3, b3⟩
  have H3 := HH2.out.on o3 b3
  generalize hl3 : L2 ++ enc r.many = L3 at H3
  have z3 : L3.length ≤ 30 + r.key.size := by rw [← hl3, List.length_append]; omega
  have HL3 := Lib.hid hl3
  have HH3 := Lib.hid H3
  have c3 := H3.row.c3
  have C4 := Lib.hid (batchWhole _ v3 L3 r.sum w3 H3.own H3.size (by omega) HF.out.sum0 HF.out.sum1)
  clear o3 b3 C3 H3 hl3 HH2 c2
  go_wp2_with fail
  refine C4.out.mono ?_
  rintro e w4 ⟨v4, rfl, o4, b4⟩
  have H4 := HH3.out.on o4 b4
  generalize hl4 : L3 ++ enc (foldN r.sum) = L4 at H4
  have z4 : L4.length ≤ 40 + r.key.size := by rw [← hl4, List.length_append]; omega
  have HL4 := Lib.hid hl4
  have HH4 := Lib.hid H4
  have c4 := H4.row.c4
  have C5 := Lib.hid (batchWhole _ v4 L4 r.least w4 H4.own H4.size (by omega) HF.out.least0 HF.out.least1)
  clear o4 b4 C4 H4 hl4 HH3 c3
  go_wp2_with fail
  refine C5.out.mono ?_
  rintro e w5 ⟨v5, rfl, o5, b5⟩
  have H5 := HH4.out.on o5 b5
  generalize hl5 : L4 ++ enc (foldN r.least) = L5 at H5
  have z5 : L5.length ≤ 50 + r.key.size := by rw [← hl5, List.length_append]; omega
  have HL5 := Lib.hid hl5
  have HH5 := Lib.hid H5
  have c5 := H5.row.c5
  have C6 := Lib.hid (batchWhole _ v5 L5 r.most w5 H5.own H5.size (by omega) HF.out.most0 HF.out.most1)
  clear o5 b5 C5 H5 hl5 HH4 c4
  go_wp2_with fail
  refine C6.out.mono ?_
  rintro e w6 ⟨v6, rfl, o6, b6⟩
  have H6 := HH5.out.on o6 b6
  generalize hl6 : L5 ++ enc (foldN r.most) = L6 at H6
  have z6 : L6.length ≤ 60 + r.key.size := by rw [← hl6, List.length_append]; omega
  have HL6 := Lib.hid hl6
  have HH6 := Lib.hid H6
  have c6 := H6.row.c6
  have CO := Lib.hid (fun w' => batchOver r.over w')
  have C7 := Lib.hid (batchNumber _ v6 L6 (overN r.over) w6 H6.own H6.size (by omega) (by have := overN_lt r.over; omega))
  clear o6 b6 C6 H6 hl6 HH5 c5
  go_wp2_with fail
  refine (CO.out _).mono ?_
  rintro e w' ⟨rfl, rfl⟩
  go_wp2_with fail
  refine C7.out.mono ?_
  rintro e w7 ⟨v7, rfl, o7, b7⟩
  have H7 := HH6.out.on o7 b7
  generalize hl7 : L6 ++ enc (overN r.over) = L7 at H7
  have z7 : L7.length ≤ 70 + r.key.size := by rw [← hl7, List.length_append]; omega
  have HL7 := Lib.hid hl7
  have HH7 := Lib.hid H7
  have c7 := H7.row.c7
  have C8 := Lib.hid (batchNumber _ v7 L7 r.bks.length w7 H7.own H7.size (by omega) (by omega))
  clear o7 b7 C7 H7 hl7 HH6 c6 CO
  go_wp2_with fail
  refine C8.out.mono ?_
  rintro e w8 ⟨v8, rfl, o8, b8⟩
  have H8 := HH7.out.on o8 b8
  generalize hl8 : L7 ++ enc r.bks.length = L8 at H8
  have HA : Hid (LL = L8 ++ bksL r.bks) := Lib.hid (by rw [HRL.out, HRH.out, HL1.out, HL2.out, HL3.out, HL4.out, HL5.out, HL6.out, HL7.out, hl8])
  have HH8 := Lib.hid H8
  have c7' := H8.row.c7
  clear o8 b8 C8 H8 hl8 HH7 c7 HL1 HL2 HL3 HL4 HL5 HL6 HL7 HRL HRH s1 s2 s3 s4 s5 s6 s7 s8 z2 z3 z4 z5 z6 z7
  go_wp2_with fail
  go_loopg [3, 44] (r.bks.length) (fun g s3 s44 wx => ∃ (i : Nat) (acc : List UInt8), i + g = r.bks.length ∧ s44 = .int .i64 i ∧ Hid (Rb w r B c acc s3 wx ∧ LL = acc ++ bksL (r.bks.drop i)))
  case atStart => exact ⟨0, L8, by omega, rfl, Lib.hid ⟨HH8.out, HA.out⟩⟩
  case round =>
    clear HH8 HA c7'
    obtain ⟨i, acc, hig, rfl, HG⟩ := hrel
    cases gk with
    | zero =>
      have e1 : decide ((i : Int) < (r.bks.length : Int)) = false := decide_eq_false (by omega)
      have e2 : decide (i < r.bks.length) = false := decide_eq_false (by omega)
      have HE : Hid (LL = acc) := Lib.hid (by rw [HG.out.2, List.drop_eq_nil_of_le (by omega)]; simp [bksL])
      go_wp2_with fail
      go_ret
      exact ⟨_, rfl, by rw [HE.out]; exact owns_mono HG.out.1.own (Nat.le_succ _), HG.out.1.below⟩
    | succ g =>
      have hlt : i < r.bks.length := by omega
      have hltz : (i : Int) < (r.bks.length : Int) := by omega
      have hN := HN.out.below HG.out.1.below (Nat.le_refl _)
      obtain ⟨ad, rfl⟩ := hN.some_of (by omega)
      obtain ⟨n, hni⟩ : ∃ n, r.bks[i]? = some n := ⟨_, List.getElem?_eq_getElem hlt⟩
      have hc := hN.rd ad rfl i n hni
      have hnlt := HF.out.bks n (List.mem_of_getElem? hni)
      have HX : Hid (LL = (acc ++ enc n) ++ bksL (r.bks.drop (i + 1))) := Lib.hid (by
        obtain ⟨h1, h2⟩ := List.getElem?_eq_some_iff.1 hni
        rw [HG.out.2, List.drop_eq_getElem_cons h1, h2]
        simp [bksL])
      have hac : acc.length ≤ 20000 := by have := congrArg List.length HG.out.2; rw [List.length_append] at this; omega
      have C9 := Lib.hid (batchNumber _ _ acc n wr HG.out.1.own HG.out.1.size (by omega) hnlt)
      clear hN hni hnlt
      go_wp2_with fail
      refine C9.out.mono ?_
      rintro e w9 ⟨v9, rfl, o9, b9⟩
      have H9 := Lib.hid (HG.out.1.on o9 b9)
      clear o9 b9 C9
      go_wp2_with fail
      go_roundg g
      case rel => exact ⟨i + 1, acc ++ enc n, by omega, by go_num, Lib.hid ⟨H9.out, HX.out⟩⟩
      case measure => omega
end Go.Proofs.YtahmcelkfbigkaaDoor
