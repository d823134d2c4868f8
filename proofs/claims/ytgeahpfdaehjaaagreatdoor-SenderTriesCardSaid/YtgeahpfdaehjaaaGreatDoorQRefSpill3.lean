/-
  Layer 21, the document's spill: Put.
-/
import Derived.Test.YtgeahpfdaehjaaaGreatDoorQRefSpill2
namespace Go.Proofs.YtgeahpfdaehjaaaGreatDoor
open Go.ChangeShapes Go.WideShapes Go.ChangeAt Go.RowKit
set_option linter.unusedVariables false

section
variable {w w' : World} {K : Nat → Prop} {ms mj m rm : Nat} {many room head : Int} {G : List Sg} {b : Bt} {A : Option Addr} {c : Nat}
set_option maxHeartbeats 1000000 in
set_option maxRecDepth 100000 in
theorem rs_put_full (h : Rsp w K ms mj m rm false many room head (pts' G)) (ok : GOk rm many G) (hr : RdR w A b.rows) (hz : SizedR b.rows) (hfit : ∀ r ∈ b.rows, FitR r) (hm : mayOk b = true) (hs : b.seq = nxG G) (hb0 : 0 ≤ head ∧ head ≤ nxG G) (hfull : room ≤ nxG G - head) :
    Calls Tryz.prog 14 #[.pointer (some ⟨ms, 0, none⟩), btVal b.seq b.start A b.rows.length c] w fun e w' => e = .returned (.int .i64 6) ∧ Below w.heap.size w w' := by
  have b0 := below_new w (.cells #[.int .i64 b.seq, .int .i64 b.start, .slice A b.rows.length c] 60)
  have C1 := refMayBt b A c (w.alloc (.cells #[.int .i64 b.seq, .int .i64 b.start, .slice A b.rows.length c] 60)) (hr.alloc _) hz
  rw [hm] at C1
  have T0 := Lib.hid (BtB.new w b.seq b.start A b.rows.length c)
  have CP : Hid (∀ wx, Below w.heap.size w wx → Calls Tryz.prog 30 #[.agg #[.int .i64 b.seq, .int .i64 b.start, .slice A b.rows.length c]] wx fun e w' => ∃ A6 c6, e = .returned (.slice A6 (putL b).length c6) ∧ (∀ q, (convert 64 9 (.slice A6 (putL b).length c6)).run Tryz.prog (w'.drewN q) = .ok (.string ⟨(putL b).toArray⟩) (w'.drewN q)) ∧ Below wx.heap.size wx w') := Lib.hid (fun wx hx => (refPut b A c wx (hr.below hx (Nat.le_refl _)) hfit hm).mono fun e w' ⟨v, h1, o, h2⟩ => by
    obtain ⟨A6, c6, rfl, rd⟩ := o.rd
    exact ⟨A6, c6, h1, fun q => rd_conv (rd.drew q), h2⟩)
  unfold btVal at C1 ⊢
  have C1 := Lib.hid C1
  have B0 := Lib.hid b0
  have HH := Lib.hid h
  have HK := Lib.hid ok
  have bd := ok.clean.lo
  have bd2 := ok.nx
  have bd3 := nx_lo ok.clean
  have hw : IntKind.i64.wrap (nxG G - head) = nxG G - head := IntWalk.i64_in _ (by omega)
  have hge : decide (room ≤ nxG G - head) = true := decide_eq_true hfull
  clear hb0
  clear h ok hr hz hm hfit b0 bd bd2 bd3
  generalize b.rows.length = N at *
  generalize b.start = st at *
  rw [hs] at *
  clear hs
  generalize (putL b).length = NL at *
  generalize hX : nxG G = x at *
  have HX := Lib.hid hX
  clear hX
  go_enter Tryz.func14, Tryz.ntmps14
  go_wp2_with fail
  refine C1.out.mono ?_
  rintro e w1 ⟨rfl, b1⟩
  have T1 := T0.out.below b1 (Nat.le_refl _)
  have lt1 := T1.lt
  have HS := Lib.hid T1.c0
  have HT := Lib.hid T1
  have B1 := Lib.hid (B0.out.trans (b1.mono B0.out.size))
  have CN := rs_nextB (HH.out.below B1.out) HK.out
  rw [HX.out] at CN
  have CN := Lib.hid CN
  clear b1 C1 T1 T0
  go_wp2_with fail
  go_region_held (fun w' => w'.cell? ⟨w.heap.size, 0, none⟩ = some (.int .i64 x))
    (first | exact HS.out | assumption)
    (first
      | (go_at_call 19; refine (CN.out _ (by exact ⟨rfl, rfl, rfl, Nat.le_refl _, fun _ _ => rfl⟩)).mono ?_; rintro e w3 ⟨rfl, b3, s0, s1, s2⟩; have t3 : w3.cell? ⟨w.heap.size, 0, none⟩ = some (.int .i64 x) := (by rw [World.cell?_of_block (b3.block _ lt1)]; exact HS.out); have B3 := Lib.hid b3; clear b3))
  all_goals
    have HS3 := Lib.hid (And.intro s1 s2)
    clear s0 s1 s2 t3
    go_wp2_with fail
    go_region_held (fun w' => w'.cell? ⟨ms, 1, none⟩ = some (.int .i64 room) ∧ w'.cell? ⟨ms, 2, none⟩ = some (.int .i64 head))
      (first | exact HS3.out | assumption)
      (first
        | (go_at_call 19; refine (CN.out _ (by exact B3.out.trans ⟨rfl, rfl, rfl, Nat.le_refl _, fun _ _ => rfl⟩)).mono ?_; rintro e w5 ⟨rfl, b5, s0, s1, s2⟩; have S5 := And.intro s1 s2; have B5 := Lib.hid b5; clear b5 s1 s2))
    all_goals
      clear CN CP HH HK HT S5
      go_wp2
      go_ret
      exact ⟨rfl, B1.out.trans (B5.out.mono B1.out.size)⟩
set_option maxHeartbeats 1000000 in
set_option maxRecDepth 100000 in
theorem rs_put_large (h : Rsp w K ms mj m rm false many room head (pts' G)) (ok : GOk rm many G) (hr : RdR w A b.rows) (hz : SizedR b.rows) (hfit : ∀ r ∈ b.rows, FitR r) (hm : mayOk b = true) (hs : b.seq = nxG G) (hb0 : 0 ≤ head ∧ head ≤ nxG G) (hfull : ¬ room ≤ nxG G - head) (hlarge : 4096 < (putL b).length) :
    Calls Tryz.prog 14 #[.pointer (some ⟨ms, 0, none⟩), btVal b.seq b.start A b.rows.length c] w fun e w' => e = .returned (.int .i64 3) ∧ Below w.heap.size w w' := by
  have b0 := below_new w (.cells #[.int .i64 b.seq, .int .i64 b.start, .slice A b.rows.length c] 60)
  have C1 := refMayBt b A c (w.alloc (.cells #[.int .i64 b.seq, .int .i64 b.start, .slice A b.rows.length c] 60)) (hr.alloc _) hz
  rw [hm] at C1
  have T0 := Lib.hid (BtB.new w b.seq b.start A b.rows.length c)
  have CP : Hid (∀ wx, Below w.heap.size w wx → Calls Tryz.prog 30 #[.agg #[.int .i64 b.seq, .int .i64 b.start, .slice A b.rows.length c]] wx fun e w' => ∃ A6 c6, e = .returned (.slice A6 (putL b).length c6) ∧ (∀ q, (convert 64 9 (.slice A6 (putL b).length c6)).run Tryz.prog (w'.drewN q) = .ok (.string ⟨(putL b).toArray⟩) (w'.drewN q)) ∧ Below wx.heap.size wx w') := Lib.hid (fun wx hx => (refPut b A c wx (hr.below hx (Nat.le_refl _)) hfit hm).mono fun e w' ⟨v, h1, o, h2⟩ => by
    obtain ⟨A6, c6, rfl, rd⟩ := o.rd
    exact ⟨A6, c6, h1, fun q => rd_conv (rd.drew q), h2⟩)
  unfold btVal at C1 ⊢
  have C1 := Lib.hid C1
  have B0 := Lib.hid b0
  have HH := Lib.hid h
  have HK := Lib.hid ok
  have bd := ok.clean.lo
  have bd2 := ok.nx
  have bd3 := nx_lo ok.clean
  have hw : IntKind.i64.wrap (nxG G - head) = nxG G - head := IntWalk.i64_in _ (by omega)
  have hge : decide (room ≤ nxG G - head) = false := decide_eq_false hfull
  have hlg : decide ((4096 : Int) < ((putL b).length : Int)) = true := decide_eq_true (by omega)
  clear hb0 hfull
  clear h ok hr hz hm hfit b0 bd bd2 bd3
  generalize b.rows.length = N at *
  generalize b.start = st at *
  rw [hs] at *
  clear hs
  generalize (putL b).length = NL at *
  generalize hX : nxG G = x at *
  have HX := Lib.hid hX
  clear hX
  go_enter Tryz.func14, Tryz.ntmps14
  go_wp2_with fail
  refine C1.out.mono ?_
  rintro e w1 ⟨rfl, b1⟩
  have T1 := T0.out.below b1 (Nat.le_refl _)
  have lt1 := T1.lt
  have HS := Lib.hid T1.c0
  have HT := Lib.hid T1
  have B1 := Lib.hid (B0.out.trans (b1.mono B0.out.size))
  have CN := rs_nextB (HH.out.below B1.out) HK.out
  rw [HX.out] at CN
  have CN := Lib.hid CN
  clear b1 C1 T1 T0
  go_wp2_with fail
  go_region_held (fun w' => w'.cell? ⟨w.heap.size, 0, none⟩ = some (.int .i64 x))
    (first | exact HS.out | assumption)
    (first
      | (go_at_call 19; refine (CN.out _ (by exact ⟨rfl, rfl, rfl, Nat.le_refl _, fun _ _ => rfl⟩)).mono ?_; rintro e w3 ⟨rfl, b3, s0, s1, s2⟩; have t3 : w3.cell? ⟨w.heap.size, 0, none⟩ = some (.int .i64 x) := (by rw [World.cell?_of_block (b3.block _ lt1)]; exact HS.out); have B3 := Lib.hid b3; clear b3))
  all_goals
    have HS3 := Lib.hid (And.intro s1 s2)
    clear s0 s1 s2 t3
    go_wp2_with fail
    go_region_held (fun w' => w'.cell? ⟨ms, 1, none⟩ = some (.int .i64 room) ∧ w'.cell? ⟨ms, 2, none⟩ = some (.int .i64 head))
      (first | exact HS3.out | assumption)
      (first
        | (go_at_call 19; refine (CN.out _ (by exact B3.out.trans ⟨rfl, rfl, rfl, Nat.le_refl _, fun _ _ => rfl⟩)).mono ?_; rintro e w5 ⟨rfl, b5, s0, s1, s2⟩; have S5 := And.intro s1 s2; have B5 := Lib.hid b5; clear b5 s1 s2))
    all_goals
      have t5 := HT.out.below B5.out (Nat.le_refl _)
      have u0 := t5.c0
      have u1 := t5.c1
      have u2 := t5.c2
      have B6 := Lib.hid (B1.out.trans (B5.out.mono B1.out.size))
      have C6 := Lib.hid (CP.out w5 B6.out)
      clear CN CP t5 S5
      go_wp2_with fail
      refine C6.out.mono ?_
      rintro e w6 ⟨A6, c6, rfl, cv6, b6⟩
      have B7 := Lib.hid (B6.out.trans (b6.mono B6.out.size))
      clear b6 C6 HH HK
      go_wp2
      go_ret
      exact ⟨rfl, B7.out⟩
set_option maxHeartbeats 2000000 in
set_option maxRecDepth 100000 in
theorem rs_put_no (h : Rsp w K ms mj m rm false many room head (pts' G)) (ok : GOk rm many G) (hr : RdR w A b.rows) (hz : SizedR b.rows) (hfit : ∀ r ∈ b.rows, FitR r) (hm : mayOk b = true) (hs : b.seq = nxG G) (hb0 : 0 ≤ head ∧ head ≤ nxG G) (hfull : ¬ room ≤ nxG G - head) (hlarge : ¬ 4096 < (putL b).length) (hno : ¬ (encR (putL b)).length ≤ rm - used (pts' G)) :
    Calls Tryz.prog 14 #[.pointer (some ⟨ms, 0, none⟩), btVal b.seq b.start A b.rows.length c] w fun e w' => e = .returned (.int .i64 6) ∧ ∃ K', Rsp w' K' ms mj m rm false many room head (pts' G) ∧ Mv8 w K w' K' := by
  have b0 := below_new w (.cells #[.int .i64 b.seq, .int .i64 b.start, .slice A b.rows.length c] 60)
  have C1 := refMayBt b A c (w.alloc (.cells #[.int .i64 b.seq, .int .i64 b.start, .slice A b.rows.length c] 60)) (hr.alloc _) hz
  rw [hm] at C1
  have T0 := Lib.hid (BtB.new w b.seq b.start A b.rows.length c)
  have CP : Hid (∀ wx, Below w.heap.size w wx → Calls Tryz.prog 30 #[.agg #[.int .i64 b.seq, .int .i64 b.start, .slice A b.rows.length c]] wx fun e w' => ∃ A6 c6, e = .returned (.slice A6 (putL b).length c6) ∧ (∀ q, (convert 64 9 (.slice A6 (putL b).length c6)).run Tryz.prog (w'.drewN q) = .ok (.string ⟨(putL b).toArray⟩) (w'.drewN q)) ∧ Below wx.heap.size wx w') := Lib.hid (fun wx hx => (refPut b A c wx (hr.below hx (Nat.le_refl _)) hfit hm).mono fun e w' ⟨v, h1, o, h2⟩ => by
    obtain ⟨A6, c6, rfl, rd⟩ := o.rd
    exact ⟨A6, c6, h1, fun q => rd_conv (rd.drew q), h2⟩)
  unfold btVal at C1 ⊢
  have C1 := Lib.hid C1
  have B0 := Lib.hid b0
  have HH := Lib.hid h
  have HK := Lib.hid ok
  have bd := ok.clean.lo
  have bd2 := ok.nx
  have bd3 := nx_lo ok.clean
  have hw : IntKind.i64.wrap (nxG G - head) = nxG G - head := IntWalk.i64_in _ (by omega)
  have hge : decide (room ≤ nxG G - head) = false := decide_eq_false hfull
  have hlg : decide ((4096 : Int) < ((putL b).length : Int)) = false := decide_eq_false (by omega)
  have CA : Hid (∀ wx, Below w.heap.size w wx → Calls Tryz.prog 31 #[.pointer (some ⟨mj, 0, none⟩), .string ⟨(putL b).toArray⟩] wx fun e w' => e = .returned (.int .i64 6) ∧ ∃ K', Rsp w' K' ms mj m rm false many room head (pts' G) ∧ Mv8 w K w' K') := Lib.hid (fun wx hx => ((h.below hx).call (L' := pts' G) (dn' := false) (fun H j => ref_japp (c := 6) j ok ⟨putL_pos b, by omega⟩ (.inr ⟨hno, rfl, rfl⟩) (.inr rfl))).mono fun e w' ⟨h1, K', h2, h3⟩ => ⟨h1, K', h2, (Mv8.still hx).trans h3⟩)
  clear hb0 hfull hlarge hno
  clear h ok hr hz hm hfit b0 bd bd2 bd3
  generalize b.rows.length = N at *
  generalize b.start = st at *
  rw [hs] at *
  clear hs
  generalize (putL b).length = NL at *
  generalize hX : nxG G = x at *
  have HX := Lib.hid hX
  clear hX
  go_enter Tryz.func14, Tryz.ntmps14
  go_wp2_with fail
  refine C1.out.mono ?_
  rintro e w1 ⟨rfl, b1⟩
  have T1 := T0.out.below b1 (Nat.le_refl _)
  have lt1 := T1.lt
  have HS := Lib.hid T1.c0
  have HT := Lib.hid T1
  have B1 := Lib.hid (B0.out.trans (b1.mono B0.out.size))
  have CN := rs_nextB (HH.out.below B1.out) HK.out
  rw [HX.out] at CN
  have CN := Lib.hid CN
  clear b1 C1 T1 T0
  go_wp2_with fail
  go_region_held (fun w' => w'.cell? ⟨w.heap.size, 0, none⟩ = some (.int .i64 x))
    (first | exact HS.out | assumption)
    (first
      | (go_at_call 19; refine (CN.out _ (by exact ⟨rfl, rfl, rfl, Nat.le_refl _, fun _ _ => rfl⟩)).mono ?_; rintro e w3 ⟨rfl, b3, s0, s1, s2⟩; have t3 : w3.cell? ⟨w.heap.size, 0, none⟩ = some (.int .i64 x) := (by rw [World.cell?_of_block (b3.block _ lt1)]; exact HS.out); have B3 := Lib.hid b3; clear b3))
  all_goals
    have HS3 := Lib.hid (And.intro s1 s2)
    clear s0 s1 s2 t3
    go_wp2_with fail
    go_region_held (fun w' => w'.cell? ⟨ms, 1, none⟩ = some (.int .i64 room) ∧ w'.cell? ⟨ms, 2, none⟩ = some (.int .i64 head))
      (first | exact HS3.out | assumption)
      (first
        | (go_at_call 19; refine (CN.out _ (by exact B3.out.trans ⟨rfl, rfl, rfl, Nat.le_refl _, fun _ _ => rfl⟩)).mono ?_; rintro e w5 ⟨rfl, b5, s0, s1, s2⟩; have S5 := And.intro s1 s2; have B5 := Lib.hid b5; clear b5 s1 s2))
    all_goals
      have t5 := HT.out.below B5.out (Nat.le_refl _)
      have u0 := t5.c0
      have u1 := t5.c1
      have u2 := t5.c2
      have B6 := Lib.hid (B1.out.trans (B5.out.mono B1.out.size))
      have C6 := Lib.hid (CP.out w5 B6.out)
      clear CN CP t5 S5
      go_wp2_with fail
      refine C6.out.mono ?_
      rintro e w6 ⟨A6, c6, rfl, cv6, b6⟩
      have B7 := Lib.hid (B6.out.trans (b6.mono B6.out.size))
      have s6 := (HH.out.below B7.out).c0
      have cvd : (convert 64 9 (.slice A6 NL c6)).run Tryz.prog w6.drew = .ok (.string ⟨(putL b).toArray⟩) w6.drew := cv6 1
      have K6 := Lib.hid (fun q : Nat => CA.out (w6.drewN q) (B7.out.trans ⟨rfl, rfl, rfl, Nat.le_refl _, fun _ _ => rfl⟩))
      clear b6 C6 HH HK CA s0 u0 u1 u2
      go_wp2_with fail
      go_region_with ((go_at_call 31; refine (K6.out _).mono ?_; rintro e w7 ⟨rfl, hK⟩; have HK := Lib.hid hK; clear hK))
      all_goals go_wp2
      all_goals go_ret
      all_goals exact ⟨rfl, HK.out⟩
set_option maxHeartbeats 2000000 in
set_option maxRecDepth 100000 in
theorem rs_put_ok (h : Rsp w K ms mj m rm false many room head (pts' G)) (ok : GOk rm many G) (hr : RdR w A b.rows) (hz : SizedR b.rows) (hfit : ∀ r ∈ b.rows, FitR r) (hm : mayOk b = true) (hs : b.seq = nxG G) (hb0 : 0 ≤ head ∧ head ≤ nxG G) (hfull : ¬ room ≤ nxG G - head) (hlarge : ¬ 4096 < (putL b).length) (hro : (encR (putL b)).length ≤ rm - used (pts' G)) :
    Calls Tryz.prog 14 #[.pointer (some ⟨ms, 0, none⟩), btVal b.seq b.start A b.rows.length c] w fun e w' => e = .returned (.int .i64 0) ∧ ∃ K', Rsp w' K' ms mj m rm false many room head (pts' (putG many G (putL b))) ∧ Mv8 w K w' K' := by
  have b0 := below_new w (.cells #[.int .i64 b.seq, .int .i64 b.start, .slice A b.rows.length c] 60)
  have C1 := refMayBt b A c (w.alloc (.cells #[.int .i64 b.seq, .int .i64 b.start, .slice A b.rows.length c] 60)) (hr.alloc _) hz
  rw [hm] at C1
  have T0 := Lib.hid (BtB.new w b.seq b.start A b.rows.length c)
  have CP : Hid (∀ wx, Below w.heap.size w wx → Calls Tryz.prog 30 #[.agg #[.int .i64 b.seq, .int .i64 b.start, .slice A b.rows.length c]] wx fun e w' => ∃ A6 c6, e = .returned (.slice A6 (putL b).length c6) ∧ (∀ q, (convert 64 9 (.slice A6 (putL b).length c6)).run Tryz.prog (w'.drewN q) = .ok (.string ⟨(putL b).toArray⟩) (w'.drewN q)) ∧ Below wx.heap.size wx w') := Lib.hid (fun wx hx => (refPut b A c wx (hr.below hx (Nat.le_refl _)) hfit hm).mono fun e w' ⟨v, h1, o, h2⟩ => by
    obtain ⟨A6, c6, rfl, rd⟩ := o.rd
    exact ⟨A6, c6, h1, fun q => rd_conv (rd.drew q), h2⟩)
  unfold btVal at C1 ⊢
  have C1 := Lib.hid C1
  have B0 := Lib.hid b0
  have HH := Lib.hid h
  have HK := Lib.hid ok
  have bd := ok.clean.lo
  have bd2 := ok.nx
  have bd3 := nx_lo ok.clean
  have hw : IntKind.i64.wrap (nxG G - head) = nxG G - head := IntWalk.i64_in _ (by omega)
  have hge : decide (room ≤ nxG G - head) = false := decide_eq_false hfull
  have hlg : decide ((4096 : Int) < ((putL b).length : Int)) = false := decide_eq_false (by omega)
  have CA : Hid (∀ wx, Below w.heap.size w wx → Calls Tryz.prog 31 #[.pointer (some ⟨mj, 0, none⟩), .string ⟨(putL b).toArray⟩] wx fun e w' => e = .returned (.int .i64 0) ∧ ∃ K', Rsp w' K' ms mj m rm false many room head (pts' (appG many G (putL b))) ∧ Mv8 w K w' K') := Lib.hid (fun wx hx => ((h.below hx).call (L' := pts' (appG many G (putL b))) (dn' := false) (fun H j => ref_japp (c := 0) j ok ⟨putL_pos b, by omega⟩ (.inl ⟨hro, rfl, rfl⟩) (.inl rfl))).mono fun e w' ⟨h1, K', h2, h3⟩ => ⟨h1, K', h2, (Mv8.still hx).trans h3⟩)
  have hi2 := app_inv (many := many) ok.clean ok.m.1 ok.inv hro (by omega)
  have hl2 : (pts' (appG many G (putL b))).length ≤ 1000 := by
    have h1 := len_put (many := many) (G := G) (r := putL b)
    have h2 := len_appG (many := many) (G := G) (r := putL b)
    have h3 := ok.len
    unfold pts'
    rw [List.length_map]
    omega
  have CS : Hid (∀ wx K2, Rsp wx K2 ms mj m rm false many room head (pts' (appG many G (putL b))) → Calls Tryz.prog 32 #[.pointer (some ⟨mj, 0, none⟩)] wx fun e w' => e = .returned (.int .i64 0) ∧ ∃ K', Rsp w' K' ms mj m rm false many room head (pts' (putG many G (putL b))) ∧ Mv8 wx K2 w' K') := Lib.hid (fun wx K2 hx => hx.call (L' := pts' (putG many G (putL b))) (dn' := false) (fun H j => by
    have := ref_jsync j hi2 hl2
    rw [show (pts' (appG many G (putL b))).map (·.n) = ns (appG many G (putL b)) by unfold pts' ns; rw [List.map_map]; rfl, app_sync ok.clean hi2] at this
    exact this))
  clear hb0 hfull hlarge hro hi2 hl2
  clear h ok hr hz hm hfit b0 bd bd2 bd3
  generalize b.rows.length = N at *
  generalize b.start = st at *
  rw [hs] at *
  clear hs
  generalize (putL b).length = NL at *
  generalize hX : nxG G = x at *
  have HX := Lib.hid hX
  clear hX
  go_enter Tryz.func14, Tryz.ntmps14
  go_wp2_with fail
  refine C1.out.mono ?_
  rintro e w1 ⟨rfl, b1⟩
  have T1 := T0.out.below b1 (Nat.le_refl _)
  have lt1 := T1.lt
  have HS := Lib.hid T1.c0
  have HT := Lib.hid T1
  have B1 := Lib.hid (B0.out.trans (b1.mono B0.out.size))
  have CN := rs_nextB (HH.out.below B1.out) HK.out
  rw [HX.out] at CN
  have CN := Lib.hid CN
  clear b1 C1 T1 T0
  go_wp2_with fail
  go_region_held (fun w' => w'.cell? ⟨w.heap.size, 0, none⟩ = some (.int .i64 x))
    (first | exact HS.out | assumption)
    (first
      | (go_at_call 19; refine (CN.out _ (by exact ⟨rfl, rfl, rfl, Nat.le_refl _, fun _ _ => rfl⟩)).mono ?_; rintro e w3 ⟨rfl, b3, s0, s1, s2⟩; have t3 : w3.cell? ⟨w.heap.size, 0, none⟩ = some (.int .i64 x) := (by rw [World.cell?_of_block (b3.block _ lt1)]; exact HS.out); have B3 := Lib.hid b3; clear b3))
  all_goals
    have HS3 := Lib.hid (And.intro s1 s2)
    clear s0 s1 s2 t3
    go_wp2_with fail
    go_region_held (fun w' => w'.cell? ⟨ms, 1, none⟩ = some (.int .i64 room) ∧ w'.cell? ⟨ms, 2, none⟩ = some (.int .i64 head))
      (first | exact HS3.out | assumption)
      (first
        | (go_at_call 19; refine (CN.out _ (by exact B3.out.trans ⟨rfl, rfl, rfl, Nat.le_refl _, fun _ _ => rfl⟩)).mono ?_; rintro e w5 ⟨rfl, b5, s0, s1, s2⟩; have S5 := And.intro s1 s2; have B5 := Lib.hid b5; clear b5 s1 s2))
    all_goals
      have t5 := HT.out.below B5.out (Nat.le_refl _)
      have u0 := t5.c0
      have u1 := t5.c1
      have u2 := t5.c2
      have B6 := Lib.hid (B1.out.trans (B5.out.mono B1.out.size))
      have C6 := Lib.hid (CP.out w5 B6.out)
      clear CN CP t5 S5
      go_wp2_with fail
      refine C6.out.mono ?_
      rintro e w6 ⟨A6, c6, rfl, cv6, b6⟩
      have B7 := Lib.hid (B6.out.trans (b6.mono B6.out.size))
      have s6 := (HH.out.below B7.out).c0
      have cvd : (convert 64 9 (.slice A6 NL c6)).run Tryz.prog w6.drew = .ok (.string ⟨(putL b).toArray⟩) w6.drew := cv6 1
      have K6 := Lib.hid (fun q : Nat => CA.out (w6.drewN q) (B7.out.trans ⟨rfl, rfl, rfl, Nat.le_refl _, fun _ _ => rfl⟩))
      clear b6 C6 HH HK CA s0 u0 u1 u2
      go_wp2_with fail
      go_region_with ((go_at_call 31; refine (K6.out _).mono ?_; rintro e w7 ⟨rfl, K7, R7, M7⟩; have r0 := R7.c0; have K8 := Lib.hid (CS.out w7 K7 R7); have M7 := Lib.hid M7; clear R7))
      all_goals
        clear CS K6 s6
        go_wp2_with fail
        refine K8.out.mono ?_
        rintro e w8 ⟨rfl, K9, R9, M9⟩
        have R9 := Lib.hid R9
        have M9 := Lib.hid (M7.out.trans M9)
        clear K8 M7
        go_wp2
        go_ret
        exact ⟨rfl, K9, R9.out, M9.out⟩
end
end Go.Proofs.YtgeahpfdaehjaaaGreatDoor
