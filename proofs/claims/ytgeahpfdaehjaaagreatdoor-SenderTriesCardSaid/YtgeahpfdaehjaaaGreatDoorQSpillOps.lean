/-
  Layer 21 (spill): Put; Ack.
-/
import Derived.Test.YtgeahpfdaehjaaaGreatDoorGrpK
import Derived.Test.YtgeahpfdaehjaaaGreatDoorQBatchPut
namespace Go.Proofs.YtgeahpfdaehjaaaGreatDoor
open Go.ChangeShapes Go.WideShapes Go.ChangeAt Go.RowKit
set_option linter.unusedVariables false

theorem putL_pos (b : Bt) : 1 ≤ (putL b).length := by
  have := enc_pos b.seq.toNat
  unfold putL putHead
  simp only [List.length_append]
  omega
section
variable {w : World} {K : Nat → Prop} {sp ad aj rm : Nat} {many room head : Int} {G : List Sg} {b : Bt} {A : Option Addr} {c : Nat}
/-- What a Put leaves: the error, the parts. -/
def PutS (w : World) (K : Nat → Prop) (sp ad aj rm : Nat) (many room head : Int) (r : Nat × List Sg) (e : Ending) (w' : World) : Prop :=
  e = .returned (ErrV r.1) ∧ ∃ K', Sx w' K' sp ad aj rm many room head r.2 ∧ Mv8 w K w' K'
theorem putS_bad (h : Sx w K sp ad aj rm many room head G) (hr : RdR w A b.rows) (hz : SizedR b.rows) (hm : mayOk b = false) :
    Calls Tryz.prog 13 #[.pointer (some ⟨sp, 0, none⟩), btVal b.seq b.start A b.rows.length c] w (PutS w K sp ad aj rm many room head (1, G)) := by
  have b0 := below_new w (.cells #[.int .i64 b.seq, .int .i64 b.start, .slice A b.rows.length c] 60)
  have C1 := batchPutBad b A c (w.alloc (.cells #[.int .i64 b.seq, .int .i64 b.start, .slice A b.rows.length c] 60)) (h.laid.alloc _) (hr.alloc _) hz hm
  unfold btVal at C1 ⊢
  have H := Lib.hid h
  have C1 := Lib.hid C1
  have B0 := Lib.hid b0
  clear h hr hz hm b0
  generalize b.rows.length = N at *
  go_enter Tryz.func13, Tryz.ntmps13
  go_wp2_with fail
  refine C1.out.mono ?_
  rintro e w1 ⟨rfl, b1⟩
  have B1 := Lib.hid (B0.out.trans (b1.mono B0.out.size))
  clear b1 C1
  go_wp2_with fail
  go_ret
  exact ⟨rfl, K, H.out.below B1.out, Mv8.still B1.out⟩
set_option maxRecDepth 100000 in
theorem putS_seq (h : Sx w K sp ad aj rm many room head G) (ok : SOk rm many room head G) (hr : RdR w A b.rows) (hz : SizedR b.rows) (hf : ∀ r ∈ b.rows, FitR r) (hm : mayOk b = true) (hs : b.seq ≠ nxG G) :
    Calls Tryz.prog 13 #[.pointer (some ⟨sp, 0, none⟩), btVal b.seq b.start A b.rows.length c] w (PutS w K sp ad aj rm many room head (1, G)) := by
  have b0 := below_new w (.cells #[.int .i64 b.seq, .int .i64 b.start, .slice A b.rows.length c] 60)
  have C1 := batchPut b A c (w.alloc (.cells #[.int .i64 b.seq, .int .i64 b.start, .slice A b.rows.length c] 60)) (h.laid.alloc _) (hr.alloc _) hz hf hm
  have T0 := Lib.hid (BtB.new w b.seq b.start A b.rows.length c)
  unfold btVal at C1 ⊢
  have H := Lib.hid h
  have OK := Lib.hid ok
  have C1 := Lib.hid C1
  have B0 := Lib.hid b0
  have hq : (b.seq == nxG G) = false := beq_eq_false_iff_ne.2 hs
  clear h hr hz hm b0 ok hf hs
  generalize b.rows.length = N at *
  generalize b.seq = q at *
  generalize b.start = st at *
  generalize hX : nxG G = x at *
  have HX := Lib.hid hX
  clear hX
  go_enter Tryz.func13, Tryz.ntmps13
  go_wp2_with fail
  refine C1.out.mono ?_
  rintro e w1 ⟨v1, rfl, o1, b1⟩
  obtain ⟨A1, c1, rfl, _⟩ := o1.rd
  have T1 := T0.out.below b1 (Nat.le_refl _)
  have t0 := T1.c0
  have B1 := Lib.hid (B0.out.trans (b1.mono B0.out.size))
  have CN := fun (wx : World) (hx : Below w1.heap.size w1 wx) => nextS ((H.out.below B1.out).below hx) OK.out.g
  rw [HX.out] at CN
  have CN := Lib.hid CN
  clear b1 C1 o1 T1 T0
  generalize (putL b).length = M at *
  go_wp2_with fail
  go_quiet ((go_at_call 11; exact Calls.quiet_of (CN.out _ (by exact ⟨rfl, rfl, rfl, Nat.le_refl _, fun _ _ => rfl⟩))))
  all_goals go_wp2
  all_goals go_ret
  all_goals exact ⟨rfl, K, (H.out.below B1.out).below ⟨rfl, rfl, rfl, Nat.le_refl _, fun _ _ => rfl⟩, Mv8.still (B1.out.trans ⟨rfl, rfl, rfl, Nat.le_refl _, fun _ _ => rfl⟩)⟩
set_option maxRecDepth 100000 in
theorem putS_full (h : Sx w K sp ad aj rm many room head G) (ok : SOk rm many room head G) (hr : RdR w A b.rows) (hz : SizedR b.rows) (hf : ∀ r ∈ b.rows, FitR r) (hm : mayOk b = true) (hs : b.seq = nxG G) (hfull : room ≤ nxG G - head) :
    Calls Tryz.prog 13 #[.pointer (some ⟨sp, 0, none⟩), btVal b.seq b.start A b.rows.length c] w (PutS w K sp ad aj rm many room head (6, G)) := by
  have b0 := below_new w (.cells #[.int .i64 b.seq, .int .i64 b.start, .slice A b.rows.length c] 60)
  have C1 := batchPut b A c (w.alloc (.cells #[.int .i64 b.seq, .int .i64 b.start, .slice A b.rows.length c] 60)) (h.laid.alloc _) (hr.alloc _) hz hf hm
  have T0 := Lib.hid (BtB.new w b.seq b.start A b.rows.length c)
  unfold btVal at C1 ⊢
  have H := Lib.hid h
  have OK := Lib.hid ok
  have C1 := Lib.hid C1
  have B0 := Lib.hid b0
  have hge : decide (room ≤ nxG G - head) = true := decide_eq_true hfull
  clear h hr hz hm b0 ok hf hfull
  generalize b.rows.length = N at *
  generalize b.start = st at *
  rw [hs] at *
  clear hs
  generalize hX : nxG G = x at *
  have HX := Lib.hid hX
  clear hX
  go_enter Tryz.func13, Tryz.ntmps13
  go_wp2_with fail
  refine C1.out.mono ?_
  rintro e w1 ⟨v1, rfl, o1, b1⟩
  obtain ⟨A1, c1, rfl, _⟩ := o1.rd
  have T1 := T0.out.below b1 (Nat.le_refl _)
  have t0 := T1.c0
  have B1 := Lib.hid (B0.out.trans (b1.mono B0.out.size))
  have CN := fun (wx : World) (hx : Below w1.heap.size w1 wx) => nextS ((H.out.below B1.out).below hx) OK.out.g
  have CL := fun (wx : World) (hx : Below w1.heap.size w1 wx) => lenS ((H.out.below B1.out).below hx) OK.out
  have s1 := (H.out.below B1.out).spb.c1
  rw [HX.out] at CN CL
  have CN := Lib.hid CN
  have CL := Lib.hid CL
  clear b1 C1 o1 T1 T0
  generalize (putL b).length = M at *
  go_wp2_with fail
  go_quiet ((go_at_call 11; exact Calls.quiet_of (CN.out _ (by exact ⟨rfl, rfl, rfl, Nat.le_refl _, fun _ _ => rfl⟩))))
  all_goals go_wp2_with fail
  all_goals go_region_with ((go_at_call 18; refine (CL.out _ (by exact ⟨rfl, rfl, rfl, Nat.le_refl _, fun _ _ => rfl⟩)).mono ?_; rintro e w5 ⟨rfl, m5, rfl⟩))
  all_goals go_wp2
  all_goals go_ret
  all_goals exact ⟨rfl, K, (H.out.below B1.out).below ⟨rfl, rfl, rfl, Nat.le_refl _, fun _ _ => rfl⟩, Mv8.still (B1.out.trans ⟨rfl, rfl, rfl, Nat.le_refl _, fun _ _ => rfl⟩)⟩
set_option maxRecDepth 100000 in
theorem putS_large (h : Sx w K sp ad aj rm many room head G) (ok : SOk rm many room head G) (hr : RdR w A b.rows) (hz : SizedR b.rows) (hf : ∀ r ∈ b.rows, FitR r) (hm : mayOk b = true) (hs : b.seq = nxG G) (hfull : ¬ room ≤ nxG G - head) (hlarge : 4096 < (putL b).length) :
    Calls Tryz.prog 13 #[.pointer (some ⟨sp, 0, none⟩), btVal b.seq b.start A b.rows.length c] w (PutS w K sp ad aj rm many room head (3, G)) := by
  have b0 := below_new w (.cells #[.int .i64 b.seq, .int .i64 b.start, .slice A b.rows.length c] 60)
  have C1 := batchPut b A c (w.alloc (.cells #[.int .i64 b.seq, .int .i64 b.start, .slice A b.rows.length c] 60)) (h.laid.alloc _) (hr.alloc _) hz hf hm
  have T0 := Lib.hid (BtB.new w b.seq b.start A b.rows.length c)
  unfold btVal at C1 ⊢
  have H := Lib.hid h
  have OK := Lib.hid ok
  have C1 := Lib.hid C1
  have B0 := Lib.hid b0
  have hge : decide (room ≤ nxG G - head) = false := decide_eq_false hfull
  have hlg : decide ((4096 : Int) < ((putL b).length : Int)) = true := decide_eq_true (by omega)
  clear h hr hz hm b0 ok hf hfull hlarge
  generalize b.rows.length = N at *
  generalize b.start = st at *
  rw [hs] at *
  clear hs
  generalize hX : nxG G = x at *
  have HX := Lib.hid hX
  clear hX
  go_enter Tryz.func13, Tryz.ntmps13
  go_wp2_with fail
  refine C1.out.mono ?_
  rintro e w1 ⟨v1, rfl, o1, b1⟩
  obtain ⟨A1, c1, rfl, _⟩ := o1.rd
  have T1 := T0.out.below b1 (Nat.le_refl _)
  have t0 := T1.c0
  have B1 := Lib.hid (B0.out.trans (b1.mono B0.out.size))
  have CN := fun (wx : World) (hx : Below w1.heap.size w1 wx) => nextS ((H.out.below B1.out).below hx) OK.out.g
  have CL := fun (wx : World) (hx : Below w1.heap.size w1 wx) => lenS ((H.out.below B1.out).below hx) OK.out
  have s1 := (H.out.below B1.out).spb.c1
  rw [HX.out] at CN CL
  have CN := Lib.hid CN
  have CL := Lib.hid CL
  clear b1 C1 o1 T1 T0
  generalize (putL b).length = M at *
  go_wp2_with fail
  go_quiet ((go_at_call 11; exact Calls.quiet_of (CN.out _ (by exact ⟨rfl, rfl, rfl, Nat.le_refl _, fun _ _ => rfl⟩))))
  all_goals go_wp2_with fail
  all_goals go_region_with ((go_at_call 18; refine (CL.out _ (by exact ⟨rfl, rfl, rfl, Nat.le_refl _, fun _ _ => rfl⟩)).mono ?_; rintro e w5 ⟨rfl, m5, rfl⟩))
  all_goals go_wp2
  all_goals go_ret
  all_goals exact ⟨rfl, K, (H.out.below B1.out).below ⟨rfl, rfl, rfl, Nat.le_refl _, fun _ _ => rfl⟩, Mv8.still (B1.out.trans ⟨rfl, rfl, rfl, Nat.le_refl _, fun _ _ => rfl⟩)⟩
set_option maxRecDepth 100000 in
theorem putS_noroom (h : Sx w K sp ad aj rm many room head G) (ok : SOk rm many room head G) (hr : RdR w A b.rows) (hz : SizedR b.rows) (hf : ∀ r ∈ b.rows, FitR r) (hm : mayOk b = true) (hs : b.seq = nxG G) (hfull : ¬ room ≤ nxG G - head) (hlarge : ¬ 4096 < (putL b).length) (hno : ¬ (encR (putL b)).length ≤ rm - used (pts' G)) :
    Calls Tryz.prog 13 #[.pointer (some ⟨sp, 0, none⟩), btVal b.seq b.start A b.rows.length c] w (PutS w K sp ad aj rm many room head (6, G)) := by
  have b0 := below_new w (.cells #[.int .i64 b.seq, .int .i64 b.start, .slice A b.rows.length c] 60)
  have C1 := batchPut b A c (w.alloc (.cells #[.int .i64 b.seq, .int .i64 b.start, .slice A b.rows.length c] 60)) (h.laid.alloc _) (hr.alloc _) hz hf hm
  have T0 := Lib.hid (BtB.new w b.seq b.start A b.rows.length c)
  unfold btVal at C1 ⊢
  have H := Lib.hid h
  have OK := Lib.hid ok
  have C1 := Lib.hid C1
  have B0 := Lib.hid b0
  have hge : decide (room ≤ nxG G - head) = false := decide_eq_false hfull
  have hlg : decide ((4096 : Int) < ((putL b).length : Int)) = false := decide_eq_false (by omega)
  have HG : Hid (GoodR (putL b)) := Lib.hid ⟨putL_pos b, by omega⟩
  have HN := Lib.hid hno
  clear h hr hz hm b0 ok hf hfull hlarge hno
  generalize b.rows.length = N at *
  generalize b.start = st at *
  rw [hs] at *
  clear hs
  generalize hX : nxG G = x at *
  have HX := Lib.hid hX
  clear hX
  go_enter Tryz.func13, Tryz.ntmps13
  go_wp2_with fail
  refine C1.out.mono ?_
  rintro e w1 ⟨v1, rfl, o1, b1⟩
  obtain ⟨A1, c1, rfl, r1⟩ := o1.rd
  have T1 := T0.out.below b1 (Nat.le_refl _)
  have t0 := T1.c0
  have B1 := Lib.hid (B0.out.trans (b1.mono B0.out.size))
  have S1 := H.out.below B1.out
  have CN := fun (wx : World) (hx : Below w1.heap.size w1 wx) => nextS (S1.below hx) OK.out.g
  have CL := fun (wx : World) (hx : Below w1.heap.size w1 wx) => lenS (S1.below hx) OK.out
  have CA : Hid (∀ (wx : World) (hx : Below w1.heap.size w1 wx), Calls Tryz.prog 27 #[.pointer (some ⟨aj, 0, none⟩), .slice A1 (putL b).length c1] wx fun e w' => e = .returned (.iface 41 (.int .i64 6)) ∧ ∃ K', Sx w' K' sp ad aj rm many room head G ∧ Mv8 w K w' K') := Lib.hid (fun wx hx => ((S1.below hx).callJ (fun W J => appendG_no J OK.out.g (r1.below hx (Nat.le_refl _)) HG.out HN.out)).mono fun e w' ⟨h1, K', h2, h3⟩ => ⟨h1, K', h2, (Mv8.still (B1.out.trans (hx.mono B1.out.size))).trans h3⟩)
  have s0 := S1.spb.c0
  have s1 := S1.spb.c1
  rw [HX.out] at CN CL
  have CN := Lib.hid CN
  have CL := Lib.hid CL
  clear b1 C1 o1 T1 T0 r1 S1
  generalize (putL b).length = M at *
  go_wp2_with fail
  go_quiet ((go_at_call 11; exact Calls.quiet_of (CN.out _ (by exact ⟨rfl, rfl, rfl, Nat.le_refl _, fun _ _ => rfl⟩))))
  all_goals go_wp2_with fail
  all_goals go_region_with ((go_at_call 18; refine (CL.out _ (by exact ⟨rfl, rfl, rfl, Nat.le_refl _, fun _ _ => rfl⟩)).mono ?_; rintro e w5 ⟨rfl, m5, rfl⟩))
  all_goals go_wp2_with fail
  all_goals
    refine (CA.out _ (by exact ⟨rfl, rfl, rfl, Nat.le_refl _, fun _ _ => rfl⟩)).mono ?_
    rintro e w2 ⟨rfl, hK⟩
    have HK := Lib.hid hK
    clear hK CA CN CL
    go_wp2_with fail
    go_ret
    exact ⟨rfl, HK.out⟩
set_option maxHeartbeats 400000 in
set_option maxRecDepth 100000 in
theorem putS_ok (h : Sx w K sp ad aj rm many room head G) (ok : SOk rm many room head G) (hr : RdR w A b.rows) (hz : SizedR b.rows) (hf : ∀ r ∈ b.rows, FitR r) (hm : mayOk b = true) (hs : b.seq = nxG G) (hfull : ¬ room ≤ nxG G - head) (hlarge : ¬ 4096 < (putL b).length) (hro : (encR (putL b)).length ≤ rm - used (pts' G)) :
    Calls Tryz.prog 13 #[.pointer (some ⟨sp, 0, none⟩), btVal b.seq b.start A b.rows.length c] w (PutS w K sp ad aj rm many room head (0, putG many G (putL b))) := by
  have b0 := below_new w (.cells #[.int .i64 b.seq, .int .i64 b.start, .slice A b.rows.length c] 60)
  have C1 := batchPut b A c (w.alloc (.cells #[.int .i64 b.seq, .int .i64 b.start, .slice A b.rows.length c] 60)) (h.laid.alloc _) (hr.alloc _) hz hf hm
  have T0 := Lib.hid (BtB.new w b.seq b.start A b.rows.length c)
  unfold btVal at C1 ⊢
  have H := Lib.hid h
  have OK := Lib.hid ok
  have C1 := Lib.hid C1
  have B0 := Lib.hid b0
  have hge : decide (room ≤ nxG G - head) = false := decide_eq_false hfull
  have hlg : decide ((4096 : Int) < ((putL b).length : Int)) = false := decide_eq_false (by omega)
  have HG : Hid (GoodR (putL b)) := Lib.hid ⟨putL_pos b, by omega⟩
  have HN := Lib.hid hro
  clear h hr hz hm b0 ok hf hfull hlarge hro
  generalize b.rows.length = N at *
  generalize b.start = st at *
  rw [hs] at *
  clear hs
  generalize hX : nxG G = x at *
  have HX := Lib.hid hX
  clear hX
  go_enter Tryz.func13, Tryz.ntmps13
  go_wp2_with fail
  refine C1.out.mono ?_
  rintro e w1 ⟨v1, rfl, o1, b1⟩
  obtain ⟨A1, c1, rfl, r1⟩ := o1.rd
  have T1 := T0.out.below b1 (Nat.le_refl _)
  have t0 := T1.c0
  have B1 := Lib.hid (B0.out.trans (b1.mono B0.out.size))
  have S1 := H.out.below B1.out
  have CN := fun (wx : World) (hx : Below w1.heap.size w1 wx) => nextS (S1.below hx) OK.out.g
  have CL := fun (wx : World) (hx : Below w1.heap.size w1 wx) => lenS (S1.below hx) OK.out
  have CA : Hid (∀ (wx : World) (hx : Below w1.heap.size w1 wx), Calls Tryz.prog 27 #[.pointer (some ⟨aj, 0, none⟩), .slice A1 (putL b).length c1] wx fun e w' => e = .returned .nilIface ∧ ∃ K', Sx w' K' sp ad aj rm many room head (appG many G (putL b)) ∧ Mv8 w K w' K') := Lib.hid (fun wx hx => ((S1.below hx).callJ (fun W J => appendG_ok J OK.out.g (r1.below hx (Nat.le_refl _)) HG.out HN.out)).mono fun e w' ⟨h1, K', h2, h3⟩ => ⟨h1, K', h2, (Mv8.still (B1.out.trans (hx.mono B1.out.size))).trans h3⟩)
  have CS : Hid (∀ (wx : World) (Kx : Nat → Prop), Sx wx Kx sp ad aj rm many room head (appG many G (putL b)) → Calls Tryz.prog 28 #[.pointer (some ⟨aj, 0, none⟩)] wx fun e w' => e = .returned .nilIface ∧ ∃ K', Sx w' K' sp ad aj rm many room head (putG many G (putL b)) ∧ Mv8 wx Kx w' K') := Lib.hid (fun wx Kx hx => hx.callJ (fun W J => syncG J OK.out.g HN.out))
  have s0 := S1.spb.c0
  have s1 := S1.spb.c1
  rw [HX.out] at CN CL
  have CN := Lib.hid CN
  have CL := Lib.hid CL
  clear b1 C1 o1 T1 T0 r1 S1
  generalize (putL b).length = M at *
  go_wp2_with fail
  go_quiet ((go_at_call 11; exact Calls.quiet_of (CN.out _ (by exact ⟨rfl, rfl, rfl, Nat.le_refl _, fun _ _ => rfl⟩))))
  all_goals go_wp2_with fail
  all_goals go_region_with ((go_at_call 18; refine (CL.out _ (by exact ⟨rfl, rfl, rfl, Nat.le_refl _, fun _ _ => rfl⟩)).mono ?_; rintro e w5 ⟨rfl, m5, rfl⟩))
  all_goals go_wp2_with fail
  all_goals
    refine (CA.out _ (by exact ⟨rfl, rfl, rfl, Nat.le_refl _, fun _ _ => rfl⟩)).mono ?_
    rintro e w2 ⟨rfl, K2, S2, M2⟩
    have c0 := S2.spb.c0
    have C2 := Lib.hid (CS.out w2 K2 S2)
    have M2 := Lib.hid M2
    clear CA CN CL CS S2
    go_wp2_with fail
    refine C2.out.mono ?_
    rintro e w3 ⟨rfl, K3, S3, M3⟩
    have S3 := Lib.hid S3
    have M3 := Lib.hid (M2.out.trans M3)
    clear C2 M2
    go_wp2_with fail
    go_ret
    exact ⟨rfl, K3, S3.out, M3.out⟩
/-! ### Ack -/
set_option maxRecDepth 100000 in
theorem ackS_none (h : Sx w K sp ad aj rm many room head G) (ok : SOk rm many room head G) (n : Int) (hn : head = nxG G) :
    Calls Tryz.prog 68 #[.pointer (some ⟨sp, 0, none⟩), .int .i64 n] w fun e w' => e = .returned (.iface 41 (.int .i64 7)) ∧ Below w.heap.size w w' := by
  have C := lenS h ok
  rw [show nxG G - head = 0 by omega] at C
  have C := Lib.hid C
  clear h ok hn
  go_enter Tryz.func68, Tryz.ntmps68
  go_wp2_with fail
  refine C.out.mono ?_
  rintro e w1 ⟨rfl, m, rfl⟩
  go_wp2
  go_ret
  exact ⟨rfl, below_drewN _ _⟩
set_option maxRecDepth 100000 in
theorem ackS_other (h : Sx w K sp ad aj rm many room head G) (ok : SOk rm many room head G) (n : Int) (hl : head < nxG G) (hn : n ≠ head) :
    Calls Tryz.prog 68 #[.pointer (some ⟨sp, 0, none⟩), .int .i64 n] w fun e w' => e = .returned (.iface 41 (.int .i64 7)) ∧ Below w.heap.size w w' := by
  have C := Lib.hid (lenS h ok)
  have c2 := h.spb.c2
  have h0 : (nxG G - head == 0) = false := beq_eq_false_iff_ne.2 (by omega)
  have h1 : (n == head) = false := beq_eq_false_iff_ne.2 hn
  clear h ok hn hl
  generalize nxG G - head = x at *
  go_enter Tryz.func68, Tryz.ntmps68
  go_wp2_with fail
  refine C.out.mono ?_
  rintro e w1 ⟨rfl, m, rfl⟩
  go_wp2
  go_ret
  exact ⟨rfl, below_drewN _ _⟩
set_option maxRecDepth 100000 in
theorem ackS_ok (h : Sx w K sp ad aj rm many room head G) (ok : SOk rm many room head G) (hl : head < nxG G) :
    Calls Tryz.prog 68 #[.pointer (some ⟨sp, 0, none⟩), .int .i64 head] w fun e w' => e = .returned .nilIface ∧ ∃ K', Sx w' K' sp ad aj rm many room (head + 1) (trimG G (head + 1)) ∧ Mv8 w K w' K' := by
  have C := Lib.hid (lenS h ok)
  have c0 := h.spb.c0
  have c2 := h.spb.c2
  have f2 := h.spb.f 2
  have lt := h.spb.lt
  have hb := ok.bds
  have h0 : (nxG G - head == 0) = false := beq_eq_false_iff_ne.2 (by omega)
  have hw : IntKind.i64.wrap (head + 1) = head + 1 := IntWalk.i64_in _ (by omega)
  have CT : Hid (∀ (m q : Nat), Calls Tryz.prog 90 #[.pointer (some ⟨aj, 0, none⟩), .int .i64 (head + 1)] (((w.drewN m).setCell ⟨sp, 2, none⟩ (.int .i64 (head + 1))).drewN q) fun e w' => e = .returned .nilIface ∧ ∃ K', Sx w' K' sp ad aj rm many room (head + 1) (trimG G (head + 1)) ∧ Mv8 w K w' K') := Lib.hid (fun m q => by
    obtain ⟨s1, m1⟩ := (h.below (below_drewN w m)).set2 (head + 1)
    exact ((s1.below (below_drewN _ q)).callJ (fun W J => trimG_ok J ok.g (head + 1))).mono fun e w' ⟨h1, K', h2, h3⟩ => ⟨h1, K', h2, (Mv8.still (below_drewN w m)).trans (m1.trans ((Mv8.still (below_drewN _ q)).trans h3))⟩)
  clear h ok hl hb
  generalize nxG G - head = x at *
  go_enter Tryz.func68, Tryz.ntmps68
  go_wp2_with fail
  refine C.out.mono ?_
  rintro e w1 ⟨rfl, m, rfl⟩
  go_wp2_with fail
  go_region_with ((go_at_call 90; refine (CT.out m _).mono ?_; rintro e w2 ⟨rfl, hK⟩; have HK := Lib.hid hK; clear hK))
  all_goals go_wp2
  all_goals go_ret
  all_goals exact ⟨rfl, HK.out⟩
end
end Go.Proofs.YtgeahpfdaehjaaaGreatDoor
