/-
  Layer 9, the document's journal: Append.
-/
import Derived.Test.YtgeahpfdaehjaaaGreatDoorQRefTrim
import Derived.Test.YtgeahpfdaehjaaaGreatDoorQWireRefPut
namespace Go.Proofs.YtgeahpfdaehjaaaGreatDoor
open Go.ChangeShapes Go.WideShapes Go.ChangeAt Go.RowKit
set_option linter.unusedVariables false

theorem refText4 (s : ByteArray) (w : World) (B : Nat) (hB : B ≤ w.heap.size) (hs : s.size ≤ 4096) :
    Calls Tryz.prog 61 #[.string s] w (Bytes B (encT s) w) := by
  have C := Lib.hid (refNumber s.size w B (by omega) hB)
  have hle := enc_length s.size (by omega)
  have HB := Lib.hid hB
  clear hB
  go_enter Tryz.func61, Tryz.ntmps61
  go_wp2_with fail
  refine C.out.mono ?_
  rintro e w1 ⟨v1, rfl, o1, b1⟩
  obtain ⟨cap, w2, r2, rd2, b2⟩ := str_row w1 s (by omega)
  have hl : s.data.toList.length = s.size := by simp
  have hB1 := Nat.le_trans HB.out b1.size
  obtain ⟨v3, w3, r3, o3, g3⟩ := ob_row (o1.below b2) rd2 (by rw [hl]; omega) (Nat.le_trans hB1 b2.size)
  rw [hl] at r3
  have R3 := Lib.hid r3
  have O : Hid (OB w3 B v3 (encT s)) := Lib.hid o3
  have B3 := Lib.hid ((b1.trans (b2.mono hB1)).trans g3.below)
  clear r3 o3 g3 o1 b1 rd2 b2 hle C hl hB1
  go_wp2_with (at_builtin; refine wpList_append_two rfl (.tmp 6) (.tmp 8) 64 64 rfl _ _ _ rfl rfl R3.out ?_)
  go_ret
  exact ⟨_, rfl, O.out, B3.out⟩
section
variable {w : World} {H : Nat → Prop} {mj m rm : Nat} {many : Int} {G G2 : List Sg} {r : Rc} {c : Nat}
theorem ref_texts (w : World) (r : Rc) (hr : r.length ≤ 4096) : Calls Tryz.prog 61 #[.string ⟨r.toArray⟩] w fun e w' => ∃ A cap, e = .returned (.slice A (encR r).length cap) ∧ (convert 64 9 (.slice A (encR r).length cap)).run Tryz.prog w' = .ok (.string ⟨(encR r).toArray⟩) w' ∧ Below w.heap.size w w' := by
  have hz : ByteArray.size ⟨r.toArray⟩ = r.length := by simp [ByteArray.size]
  refine (refText4 ⟨r.toArray⟩ w w.heap.size (Nat.le_refl _) (by rw [hz]; exact hr)).mono ?_
  rintro e w' ⟨v, rfl, o, b⟩
  rw [encT_arr] at o
  obtain ⟨A, cap, rfl, rd⟩ := o.rd
  exact ⟨A, cap, rfl, rd_conv rd, b⟩
/-- What comes of a record appended: where there is room, and where there is none. -/
def AppR (rm : Nat) (many : Int) (G : List Sg) (r : Rc) (c : Nat) (G2 : List Sg) : Prop :=
  ((encR r).length ≤ rm - used (pts' G) ∧ c = 0 ∧ G2 = appG many G r) ∨ (¬ (encR r).length ≤ rm - used (pts' G) ∧ c = 6 ∧ G2 = G)
/-- In the last part, whose row stays where it is. -/
theorem app_last {X : List Sg} {g : Sg} (h : Rjn w H mj m rm false many (pts' (X ++ [g]))) (ok : GOk rm many (X ++ [g])) (hg : GoodR r) (hf : jFull many (ns (X ++ [g])) (recs (X ++ [g])) = false) (hA : AppR rm many (X ++ [g]) r c G2) {A : Option Addr} {cap ga : Nat} (hb : RfB w m rm false A cap (pts' (X ++ [g]))) (hG : ∀ x, H x ↔ footR m A x) (ha : A = some ⟨ga, 0, none⟩) :
    Calls Tryz.prog 63 #[.pointer (some ⟨m, 0, none⟩), .int .i64 g.n, .string ⟨(encR r).toArray⟩] w fun e w' => e = .returned (.int .i64 (c : Nat)) ∧ LastAt w' mj m ga (X.length + 1) cap (X.length * 3) g.n ∧ ∃ H', Rjn w' H' mj m rm false many (pts' G2) ∧ Mv8 w H w' H' := by
  have he := encR_length hg
  have hg2 := hg.2
  have hi := ok.inv
  have hl : (pts' (X ++ [g])).length ≤ 1000 := ok.plen
  have hn : 0 ≤ g.n := hi.lo g.pt (List.mem_map.2 ⟨g, by simp, rfl⟩)
  have e0 : pts' (X ++ [g]) = pts' X ++ [g.pt] := by unfold pts'; rw [List.map_append]; rfl
  have hxl : (pts' X).length = X.length := by unfold pts'; rw [List.length_map]
  rcases hA with ⟨hro, rfl, rfl⟩ | ⟨hro, rfl, rfl⟩
  · have hx : ∀ p ∈ pts' X, p.n < g.n := rises_lt hi.rise
    rw [e0] at hb hl hro
    refine (refAppendA w m rm _ A cap (pts' X) [] g.pt g.n (encR r) hb hl (Lib.hid rfl) hn (by have := hi.fits; rw [e0] at this; exact this) hi.room (by omega) rfl hx).mono ?_
    rintro e w' ⟨rfl, hb', hk⟩
    have ht : g.t = [] := ok.clean.t0 g (by simp)
    have eg : pts' (appG many (X ++ [g]) r) = pts' X ++ [(⟨g.n, g.pt.b ++ encR r, g.pt.s⟩ : Pt)] := by
      rw [app_in (by rw [hf]; simp)]
      unfold pts' Sg.pt
      rw [List.map_append]
      simp only [List.map_cons, List.map_nil, ht, List.append_nil, flat_snoc]
    obtain ⟨j1, j2⟩ := h.held hG hb' hk
    have e1 := hb'.c1
    rw [show (pts' X ++ [(⟨g.pt.n, g.pt.b ++ encR r, g.pt.s⟩ : Pt)]).length = X.length + 1 by simp [hxl], ha] at e1
    obtain ⟨g2, e2, e3, _⟩ := hb'.at (y := [])
    rw [ha] at e2
    cases e2
    rw [hxl] at e3
    exact ⟨rfl, ⟨j1.c0, e1, e3⟩, H, by rw [eg]; exact j1, j2⟩
  · refine (refAppend_full w m rm _ A cap (pts' (X ++ [g])) g.n (encR r) hb hl (Lib.hid rfl) hn hi.fits hi.room (by omega) (by omega)).mono ?_
    rintro e w' ⟨rfl, hbl⟩
    have hb' := hb.below hbl
    have e1 := hb'.c1
    rw [e0] at e1 hb'
    rw [show (pts' X ++ [g.pt]).length = X.length + 1 by simp [hxl], ha] at e1
    obtain ⟨g2, e2, e3, _⟩ := hb'.at (y := [])
    rw [ha] at e2
    cases e2
    rw [hxl] at e3
    have j1 := h.below hbl
    exact ⟨rfl, ⟨j1.c0, e1, e3⟩, H, j1, Mv8.still hbl⟩
/-- In a part of its own. -/
theorem app_new (h : Rjn w H mj m rm false many (pts' G)) (ok : GOk rm many G) (hg : GoodR r) (hf : jFull many (ns G) (recs G) = true) (hA : AppR rm many G r c G2) :
    Calls Tryz.prog 63 #[.pointer (some ⟨m, 0, none⟩), .int .i64 (nxG G), .string ⟨(encR r).toArray⟩] w (RjOps w H mj m rm false many (c, pts' G2)) := by
  have he := encR_length hg
  have hg2 := hg.2
  have hnx := ok.nx
  have := h.call (r := opAppend rm false (pts' G) (nxG G) (encR r)) (fun hr => refAppend w H m rm false (pts' G) (nxG G) (encR r) hr ok.inv ok.plen (by omega) (by omega))
  rcases hA with ⟨hro, rfl, rfl⟩ | ⟨hro, rfl, rfl⟩
  · rcases app_ok (r := r) ok.clean ok.m.1 ok.inv hro with ⟨_, e, _⟩ | ⟨hf2, _⟩
    · rw [e] at this; exact this
    · rw [hf] at hf2; cases hf2
  · rw [(app_no (many := many) ok.clean ok.inv hro).1] at this
    exact this
theorem GOk.goods (ok : GOk rm many G) : ∀ g ∈ G, g.Good := (ok.clean.segs (by have := ok.len; omega)).good
theorem GOk.used (ok : GOk rm many G) : Go.Proofs.YtgeahpfdaehjaaaGreatDoor.used (pts' G) ≤ 65536 := by have := ok.inv.fits; have := ok.inv.room; omega
theorem GOk.rl (ok : GOk rm many G) : (recs G).length ≤ 100000 := by have := ok.clean.count.1; omega
theorem ref_all (h : Rjn w H mj m rm false many (pts' G)) (ok : GOk rm many G) :
    Calls Tryz.prog 45 #[.pointer (some ⟨mj, 0, none⟩)] w fun e w' => ∃ A cap, e = .returned (.slice A (recs G).length cap) ∧ OS w' w.heap.size (.slice A (recs G).length cap) (recs G) ∧ Below w.heap.size w w' :=
  ref_jall h ok.goods (by have := ok.len; omega) ok.used ok.rl
theorem ref_first (h : Rjn w H mj m rm false many (pts' G)) :
    Calls Tryz.prog 44 #[.pointer (some ⟨mj, 0, none⟩)] w fun e w' => e = .returned (.int .i64 (fsG G)) ∧ w' = w := by
  have := ref_jfirst h
  unfold pts' at this
  rw [List.map_map] at this
  exact this
set_option maxHeartbeats 2000000 in
set_option maxRecDepth 100000 in
theorem ref_japp (h : Rjn w H mj m rm false many (pts' G)) (ok : GOk rm many G) (hg : GoodR r) (hA : AppR rm many G r c G2) (hc : c = 0 ∨ c = 6) :
    Calls Tryz.prog 31 #[.pointer (some ⟨mj, 0, none⟩), .string ⟨r.toArray⟩] w (RjOps w H mj m rm false many (c, pts' G2)) := by
  have C1 := Lib.hid (ref_first h)
  have C2 := Lib.hid (ref_all h ok)
  have hz : ByteArray.size ⟨r.toArray⟩ = r.length := by simp [ByteArray.size]
  have b1 : ¬ (r.length : Int) < 1 := by have := hg.1; omega
  have b2 : ¬ 4096 < (r.length : Int) := by have := hg.2; omega
  have CT := Lib.hid (fun w => ref_texts w r hg.2)
  have bd := ok.clean.lo
  have bd2 := ok.nx
  have hnx : IntKind.i64.wrap (fsG G + ((recs G).length : Int)) = nxG G := by
    rw [show fsG G + ((recs G).length : Int) = nxG G from (nxG_eq G).symm]
    have := nx_lo ok.clean
    exact IntWalk.i64_in _ (by omega)
  have hnx0 := nx_lo ok.clean
  by_cases hf : jFull many (ns G) (recs G) = true
  · have CS : Hid (∀ wx, Below w.heap.size w wx → Calls Tryz.prog 32 #[.pointer (some ⟨mj, 0, none⟩)] wx fun e w' => e = .returned (.int .i64 0) ∧ ∃ H', Rjn w' H' mj m rm false many (pts' G) ∧ Mv8 w H w' H') := Lib.hid (fun wx hx => by
      have := ref_jsync (h.below hx) ok.inv ok.plen
      rw [show (pts' G).map (·.n) = ns G by unfold pts' ns; rw [List.map_map]; rfl, clean_sync ok.clean ok.inv] at this
      exact this.mono fun e w' ⟨h1, H', h2, h3⟩ => ⟨h1, H', h2, (Mv8.still hx).trans h3⟩)
    have CA : Hid (∀ wx Hx, Rjn wx Hx mj m rm false many (pts' G) → Mv8 w H wx Hx → ∀ wy, Below wx.heap.size wx wy → Calls Tryz.prog 63 #[.pointer (some ⟨m, 0, none⟩), .int .i64 (nxG G), .string ⟨(encR r).toArray⟩] wy fun e w' => e = .returned (.int .i64 (c : Nat)) ∧ w'.cell? ⟨mj, 0, none⟩ = some (.pointer (some ⟨m, 0, none⟩)) ∧ RjOps w H mj m rm false many (c, pts' G2) (.returned (.int .i64 (c : Nat))) w') := Lib.hid (fun wx Hx hj hm wy hy => (app_new (hj.below hy) ok hg hf hA).mono fun e w' ⟨h1, H', h2, h3⟩ => ⟨h1, h2.c0, rfl, H', h2, hm.trans ((Mv8.still hy).trans h3)⟩)
    have HH := Lib.hid h
    have HK : Hid ((c : Int) = 0 ∨ (c : Int) = 6) := Lib.hid (by omega)
    by_cases hG : G = []
    · have hcl : (pts' G).length = 0 := by rw [hG]; rfl
      clear ok hg hA hf bd bd2 hG hnx0
      generalize nxG G = x at *
      generalize (recs G).length = NR at *
      generalize fsG G = fs at *
      generalize r.length = NL at *
      go_enter Tryz.func31, Tryz.ntmps31
      go_wp2_with fail
      refine C1.out.mono ?_
      rintro e w1 ⟨rfl, rfl⟩
      go_wp2_with fail
      refine C2.out.mono ?_
      rintro e w2 ⟨A2, cap2, rfl, _, b2⟩
      have J2 := HH.out.below b2
      have c0 := J2.c0
      obtain ⟨A, cap, hb, _⟩ := J2.ref
      have c1 := hb.c1
      rw [hcl] at c1
      have M2 := Lib.hid (Mv8.still (F := H) b2)
      have J2 := Lib.hid J2
      clear h HH hb hcl C1 C2 b2 CS
      go_wp2_with fail
      go_quiet (fail)
      all_goals go_wp2_with fail
      all_goals
        generalize hU : w2.drewN _ = U
        have BU : Below w2.heap.size w2 U := by rw [← hU]; exact below_drewN _ _
        have JU := J2.out.below BU
        have cU := JU.c0
        have KA := Lib.hid (fun wy (hy : Below U.heap.size U wy) => CA.out U H JU (M2.out.trans (Mv8.still BU)) wy hy)
        clear hU J2 M2 CA c0 c1 BU JU
        go_region_with (first
          | (go_at_call 61; refine (CT.out _).mono ?_; rintro e w3 ⟨A3, cap3, rfl, cv3, b3⟩; have c3 : w3.cell? ⟨mj, 0, none⟩ = some (.pointer (some ⟨m, 0, none⟩)) := (by rw [World.cell?_of_block (b3.block _ (World.block_lt_of_cell? U _ cU))]; exact cU); have K3 := Lib.hid (KA.out w3 (Below.undraw (m := 0) b3)); clear b3)
          | (go_at_call 63; refine K3.out.mono ?_; rintro e w4 ⟨rfl, _, hF⟩; have hF := Lib.hid hF))
        all_goals go_wp2
        all_goals go_ret
        all_goals exact hF.out
    · have HNE := hG
      obtain ⟨X, g, rfl⟩ : ∃ X g, G = X ++ [g] := by
        rcases List.eq_nil_or_concat G with e | ⟨X, g, e⟩
        · exact absurd e HNE
        · exact ⟨X, g, by rw [e, List.concat_eq_append]⟩
      have hpl : (pts' (X ++ [g])).length = X.length + 1 := by unfold pts'; simp
      have e0 : pts' (X ++ [g]) = pts' X ++ [g.pt] := by unfold pts'; rw [List.map_append]; rfl
      have hxl : (pts' X).length = X.length := by unfold pts'; rw [List.length_map]
      have hlast : jLast (ns (X ++ [g])) = g.n := jLast_snoc X g
      have hgn : 0 ≤ g.n := ok.inv.lo g.pt (List.mem_map.2 ⟨g, by simp, rfl⟩)
      have hgm : g.n ≤ nxG (X ++ [g]) := by have := clean_last ok.clean; omega
      have hw : IntKind.i64.wrap (((X.length + 1 : Nat) : Int) - 1) = (X.length : Int) := by rw [IntKind.wrap_i64]; have := ok.len; rw [List.length_append, List.length_singleton] at this; omega
      have hw2 : IntKind.i64.wrap (nxG (X ++ [g]) - g.n) = nxG (X ++ [g]) - g.n := IntWalk.i64_in _ (by omega)
      have hk1 : (0 : Int) < ((X.length + 1 : Nat) : Int) := by omega
      have hk2 : (X.length : Int) < ((X.length + 1 : Nat) : Int) := by omega
      have hk3 : X.length < X.length + 1 := by omega
      have hk4 : 0 < X.length + 1 := by omega
      have hlt : decide (nxG (X ++ [g]) - g.n < many) = false := decide_eq_false (by
        unfold jFull at hf
        rw [hlast, jNext_nx, decide_eq_false (show ¬ ns (X ++ [g]) = [] by unfold ns; simp), Bool.false_or] at hf
        have := of_decide_eq_true hf
        omega)
      have hltn : ¬ nxG (X ++ [g]) - g.n < many := of_decide_eq_false hlt
      clear ok hg hA hf bd bd2 hnx0 HNE hG hlast hgn hgm
      generalize nxG (X ++ [g]) = x at *
      generalize (recs (X ++ [g])).length = NR at *
      generalize fsG (X ++ [g]) = fs at *
      generalize r.length = NL at *
      go_enter Tryz.func31, Tryz.ntmps31
      go_wp2_with fail
      refine C1.out.mono ?_
      rintro e w1 ⟨rfl, rfl⟩
      go_wp2_with fail
      refine C2.out.mono ?_
      rintro e w2 ⟨A2, cap2, rfl, _, b2⟩
      have J2 := HH.out.below b2
      have c0 := J2.c0
      have cm := J2.c1
      obtain ⟨A, cap, hb, _⟩ := J2.ref
      have c1 := hb.c1
      rw [hpl] at c1
      rw [e0] at hb
      obtain ⟨ga, rfl, d0, _⟩ := hb.at (y := [])
      rw [hxl] at d0
      replace d0 : w2.cell? ⟨ga, X.length * 3, none⟩ = some (.int .i64 g.n) := d0
      have CS2 := Lib.hid (fun wx (hx : Below w2.heap.size w2 wx) => CS.out wx (b2.trans (hx.mono b2.size)))
      clear h HH hb hpl e0 hxl C1 C2 b2 J2 CS
      generalize g.n = z at *
      generalize X.length = M at *
      generalize M + 1 = N at *
      go_wp2_with fail
      go_quiet (fail)
      all_goals go_wp2_with fail
      all_goals
        refine (CS2.out _ (by exact ⟨rfl, rfl, rfl, Nat.le_refl _, fun _ _ => rfl⟩)).mono ?_
        rintro e w3 ⟨rfl, H3, J3, M3⟩
        have c0 := J3.c0
        have KA := Lib.hid (CA.out w3 H3 J3 M3)
        clear CS2 CA J3 M3 c1 d0 cm
        go_wp2_with fail
        go_region_with (first
          | (go_at_call 61; refine (CT.out _).mono ?_; rintro e w4 ⟨A4, cap4, rfl, cv4, b4⟩; have c4 : w4.cell? ⟨mj, 0, none⟩ = some (.pointer (some ⟨m, 0, none⟩)) := (by rw [World.cell?_of_block (b4.block _ (World.block_lt_of_cell? w3 _ c0))]; exact c0); have K4 := Lib.hid (KA.out w4 (Below.undraw (m := 0) b4)); clear b4)
          | (go_at_call 63; refine K4.out.mono ?_; rintro e w5 ⟨rfl, _, hF⟩; have hF := Lib.hid hF))
        all_goals go_wp2
        all_goals go_ret
        all_goals exact hF.out
  · have hf2 : jFull many (ns G) (recs G) = false := by simpa using hf
    have HNE : G ≠ [] := not_full_ne hf
    obtain ⟨X, g, rfl⟩ : ∃ X g, G = X ++ [g] := by
      rcases List.eq_nil_or_concat G with e | ⟨X, g, e⟩
      · exact absurd e HNE
      · exact ⟨X, g, by rw [e, List.concat_eq_append]⟩
    have hpl : (pts' (X ++ [g])).length = X.length + 1 := by unfold pts'; simp
    have e0 : pts' (X ++ [g]) = pts' X ++ [g.pt] := by unfold pts'; rw [List.map_append]; rfl
    have hxl : (pts' X).length = X.length := by unfold pts'; rw [List.length_map]
    have hlast : jLast (ns (X ++ [g])) = g.n := jLast_snoc X g
    have hgn : 0 ≤ g.n := ok.inv.lo g.pt (List.mem_map.2 ⟨g, by simp, rfl⟩)
    have hgm : g.n ≤ nxG (X ++ [g]) := by have := clean_last ok.clean; omega
    have hw : IntKind.i64.wrap (((X.length + 1 : Nat) : Int) - 1) = (X.length : Int) := by rw [IntKind.wrap_i64]; have := ok.len; rw [List.length_append, List.length_singleton] at this; omega
    have hw2 : IntKind.i64.wrap (nxG (X ++ [g]) - g.n) = nxG (X ++ [g]) - g.n := IntWalk.i64_in _ (by omega)
    have hk1 : (0 : Int) < ((X.length + 1 : Nat) : Int) := by omega
    have hk2 : (X.length : Int) < ((X.length + 1 : Nat) : Int) := by omega
    have hk3 : X.length < X.length + 1 := by omega
    have hk4 : 0 < X.length + 1 := by omega
    have hlt : decide (nxG (X ++ [g]) - g.n < many) = true := decide_eq_true (by
      unfold jFull at hf2
      rw [hlast, jNext_nx, decide_eq_false (show ¬ ns (X ++ [g]) = [] by unfold ns; simp), Bool.false_or] at hf2
      have := of_decide_eq_false hf2
      omega)
    have hltn : nxG (X ++ [g]) - g.n < many := of_decide_eq_true hlt
    have CA : Hid (∀ wx, Below w.heap.size w wx → ∀ A cap ga, RfB wx m rm false A cap (pts' (X ++ [g])) → (∀ y, H y ↔ footR m A y) → A = some ⟨ga, 0, none⟩ → Calls Tryz.prog 63 #[.pointer (some ⟨m, 0, none⟩), .int .i64 g.n, .string ⟨(encR r).toArray⟩] wx fun e w' => e = .returned (.int .i64 (c : Nat)) ∧ LastAt w' mj m ga (X.length + 1) cap (X.length * 3) g.n ∧ RjOps w H mj m rm false many (c, pts' G2) (.returned (.int .i64 (c : Nat))) w') := Lib.hid (fun wx hx A cap ga hb hG ha => (app_last (h.below hx) ok hg hf2 hA hb hG ha).mono fun e w' ⟨h1, h2, H', h3, h4⟩ => ⟨h1, h2, rfl, H', h3, (Mv8.still hx).trans h4⟩)
    have HH := Lib.hid h
    clear ok hg hA hf hf2 bd bd2 hnx0 HNE hlast hgn hgm
    unfold LastAt at CA
    generalize nxG (X ++ [g]) = x at *
    generalize (recs (X ++ [g])).length = NR at *
    generalize fsG (X ++ [g]) = fs at *
    generalize r.length = NL at *
    go_enter Tryz.func31, Tryz.ntmps31
    go_wp2_with fail
    refine C1.out.mono ?_
    rintro e w1 ⟨rfl, rfl⟩
    go_wp2_with fail
    refine C2.out.mono ?_
    rintro e w2 ⟨A2, cap2, rfl, _, b2⟩
    have J2 := HH.out.below b2
    have c0 := J2.c0
    have cm := J2.c1
    obtain ⟨A, cap, hb, hG⟩ := J2.ref
    have c1 := hb.c1
    rw [hpl] at c1
    have hb2 := hb
    rw [e0] at hb2
    obtain ⟨ga, rfl, d0, _⟩ := hb2.at (y := [])
    rw [hxl] at d0
    replace d0 : w2.cell? ⟨ga, X.length * 3, none⟩ = some (.int .i64 g.n) := d0
    have KA := Lib.hid (fun wx (hx : Below w2.heap.size w2 wx) => CA.out wx (b2.trans (hx.mono b2.size)) _ cap ga (hb.below hx) hG rfl)
    have lt0 := J2.lt
    have lt1 := hb.lt
    have lt2 := World.block_lt_of_cell? w2 _ d0
    clear h HH hb hb2 hG hpl e0 hxl C1 C2 b2 J2 CA
    generalize g.n = z at *
    generalize X.length = M at *
    generalize M + 1 = N at *
    go_wp2_with fail
    go_quiet (fail)
    all_goals go_wp2_with fail
    all_goals
      generalize hU : w2.drewN _ = U
      have KU := Lib.hid (fun wx (hx : Below U.heap.size U wx) => KA.out wx (by rw [← hU] at hx; exact Below.undraw (m := 0) hx))
      have HS : Hid (U.cell? ⟨mj, 0, none⟩ = some (.pointer (some ⟨m, 0, none⟩)) ∧ U.cell? ⟨m, 1, none⟩ = some (.slice (some ⟨ga, 0, none⟩) N cap) ∧ U.cell? ⟨ga, M * 3, none⟩ = some (.int .i64 z)) := Lib.hid (by rw [← hU]; exact ⟨c0, c1, d0⟩)
      have LU : Hid (mj < U.heap.size ∧ m < U.heap.size ∧ ga < U.heap.size) := Lib.hid (by rw [← hU]; exact ⟨lt0, lt1, lt2⟩)
      clear hU KA c0 c1 d0 cm lt0 lt1 lt2
      go_region_held (fun w' => w'.cell? ⟨mj, 0, none⟩ = some (.pointer (some ⟨m, 0, none⟩)) ∧ w'.cell? ⟨m, 1, none⟩ = some (.slice (some ⟨ga, 0, none⟩) N cap) ∧ w'.cell? ⟨ga, M * 3, none⟩ = some (.int .i64 z))
        (first | exact HS.out | assumption)
        (first
          | (go_at_call 61; refine (CT.out _).mono ?_; rintro e w4 ⟨A4, cap4, rfl, cv4, b4⟩; have S4 : w4.cell? ⟨mj, 0, none⟩ = some (.pointer (some ⟨m, 0, none⟩)) ∧ w4.cell? ⟨m, 1, none⟩ = some (.slice (some ⟨ga, 0, none⟩) N cap) ∧ w4.cell? ⟨ga, M * 3, none⟩ = some (.int .i64 z) := (by have b5 := Below.undraw (m := 0) b4; refine ⟨?_, ?_, ?_⟩; (rw [World.cell?_of_block (b5.block _ LU.out.1)]; exact HS.out.1); (rw [World.cell?_of_block (b5.block _ LU.out.2.1)]; exact HS.out.2.1); (rw [World.cell?_of_block (b5.block _ LU.out.2.2)]; exact HS.out.2.2)); have K4 := Lib.hid (KU.out w4 (Below.undraw (m := 0) b4)); clear b4)
          | (go_at_call 63; refine K4.out.mono ?_; rintro e w5 ⟨rfl, S5, hF⟩; have hF := Lib.hid hF))
      all_goals go_wp2
      all_goals go_ret
      all_goals exact hF.out
end
end Go.Proofs.YtgeahpfdaehjaaaGreatDoor
