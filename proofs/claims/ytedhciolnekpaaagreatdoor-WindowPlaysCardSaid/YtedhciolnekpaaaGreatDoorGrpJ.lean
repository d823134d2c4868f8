/-
  A drawn region walked by hand: take number i first, by its temporary's number: where its guard is true, or it has none; where its guard is false.
  Layer 20 (window): the document's Add.
-/
import Derived.Test.YtedhciolnekpaaaGreatDoorGrpA
import Derived.Deep.RegionHeld
import Derived.Test.YtedhciolnekpaaaGreatDoorQWindowDue
import Derived.RegionTactic
import Derived.Deep.RegionLaw
import Derived.Deep.RegionHeldLaw
namespace Go.Proofs.YtedhciolnekpaaaGreatDoor
set_option linter.unusedVariables false

/-- Take number i first, where its guard is false. -/
theorem takeSk {P : Program} {md : Region.Mode} {ops : Array Oper} {Q : Exit → Act → World → Prop} {S : World → Prop} (i d : Nat) {oi : Oper} {fuel : Nat} {listed : Array Bool} {a : Act} {w : World} (hi : ops[i]? = some oi) (hd : oi.dst = some d)
    (hs : Region.noSelect ops = true) (hf : Region.free md ops listed i = true) (hr : (Region.ready md ops listed).contains i = true)
    (hQ : ∀ c a w, Q (.panic c) (a.put (some d) undef) w → Q (.panic c) a w) (hw : Region.wanted oi (yielded ops a.tmps) = false) (hS : S w)
    (h : wpAnyH P md ops Q S fuel (listed.setIfInBounds i true) (a.put (some d) undef) w) : wpAnyH P md ops Q S (fuel + 1) listed a w := by
  rw [← hd] at hQ h
  exact wpAnyH_take hi hs hf hr hQ (Or.inr ⟨hw, rfl⟩) hS h
/-- .. where its guard is true, or it has none. -/
theorem takeWa {P : Program} {md : Region.Mode} {ops : Array Oper} {Q : Exit → Act → World → Prop} {S : World → Prop} (i d : Nat) {oi : Oper} {v : Value} {fuel : Nat} {listed : Array Bool} {a : Act} {w : World} (hi : ops[i]? = some oi) (hd : oi.dst = some d)
    (hs : Region.noSelect ops = true) (hf : Region.free md ops listed i = true) (hr : (Region.ready md ops listed).contains i = true)
    (hQ : ∀ c a w, Q (.panic c) (a.put (some d) v) w → Q (.panic c) a w) (hw : Region.wanted oi (yielded ops a.tmps) = true) (hy : ∀ w, S w → (execOp a.eval oi).run P w = .ok (.value v) w) (hS : S w)
    (h : wpAnyH P md ops Q S fuel (listed.setIfInBounds i true) (a.put (some d) v) w) : wpAnyH P md ops Q S (fuel + 1) listed a w := by
  rw [← hd] at hQ h
  exact wpAnyH_take hi hs hf hr hQ (Or.inl ⟨hw, hy⟩) hS h
end Go.Proofs.YtedhciolnekpaaaGreatDoor
namespace Go.Proofs.YtedhciolnekpaaaGreatDoor
open Go.ChangeShapes Go.WideShapes Go.ChangeAt Go.RowKit Go.Deep
set_option linter.unusedVariables false

/-- What a key's question comes to. -/
def OfTold (w : World) (ok : Bool) (e : Ending) (w' : World) : Prop := ∃ n A ln c, e = .returned (.tuple #[.agg #[.string n, .slice A ln c, .int .i64 0, .int .i64 0, .int .i64 0], .bool ok]) ∧ Below w.heap.size w w'
/-- What a call that adds makes of the table. -/
structure Added (base : Nat) (w : World) (b : Nat) (t : Tb) (l : List PtW) (code : Int) (e : Ending) (w' : World) : Prop where
  e : e = .returned (.int .i64 code)
  tr : ∃ A c, Tr base w' b t A c l
  kp : Keeps (fun g => g = b) w w'
theorem Tr.kp {base : Nat} {w w' : World} {b : Nat} {t : Tb} {A : Option Addr} {c : Nat} {l : List PtW} (h : Tr base w b t A c l) {code : Int} {e : Ending} (he : e = .returned (.int .i64 code)) (hb : Below w.heap.size w w') : Added base w b t l code e w' :=
  ⟨he, ⟨A, c, h.still hb⟩, Keeps.of_below hb (Nat.le_refl _) _⟩
set_option maxHeartbeats 1000000 in
set_option maxRecDepth 100000 in
theorem ref_add_bad (base : Nat) (w : World) (b : Nat) (t : Tb) (A : Option Addr) (c : Nat) (l : List PtW) (h : Tr base w b t A c l) (mark kd val time : Int) (key : ByteArray) (ok : Bool)
    (CO : ∀ w, Calls Tryz.prog 31 #[.string key] w (OfTold w ok)) (hn : ¬ AskT ok kd time) :
    Calls Tryz.prog 16 #[.pointer (some ⟨b, 0, none⟩), .int .i64 mark, .string key, .int .i64 kd, .int .i64 val, .int .i64 time] w (Added base w b t l 1) := by
  have CO := Lib.hid CO
  unfold OfTold at CO
  have HT := Lib.hid h
  have x := not_ask hn
  clear h hn
  rcases x with x1 | ⟨x1, x2⟩ | ⟨x1, x2, x3⟩ | ⟨x1, x2, x3, x4⟩ | ⟨x1, x2, x3, x4, x5⟩
  all_goals
    subst x1
    go_enter Tryz.func16, Tryz.ntmps16
    go_wp2_with fail
    refine (CO.out _).mono ?_
    rintro e w1 ⟨n, A', ln, c', rfl, b1⟩
    go_wp2_with fail
    go_ret
    exact HT.out.kp rfl (b1.trans (((Below.refl w1.heap.size w1).alloc (Nat.le_refl _) _).mono b1.size))

/-- What a call with values that may be comes to. -/
def AddPost (base : Nat) (w : World) (b : Nat) (t : Tb) (l : List PtW) (n : Nm) (s val u mark : Int) (e : Ending) (w' : World) : Prop :=
  (u ≤ mark ∧ Added base w b t l 8 e w') ∨ (¬ u ≤ mark ∧ fullW t n s l ∧ Added base w b t l 6 e w') ∨ (¬ u ≤ mark ∧ ¬ fullW t n s l ∧ Added base w b t (l ++ [⟨s, n, val⟩]) 0 e w')
/-- A value is put behind the others. -/
theorem put_pre {X : World} {base b : Nat} {t : Tb} {A : Option Addr} {c : Nat} {l : List PtW} (h : Tr base X b t A c l) (hX : base ≤ X.heap.size) (hl : l.length ≤ 100) (p : PtW) :
    ∃ D1 d1 w5 D2 d2 w6,
      (Builtin.append_ #[25, 25] 25 #[.slice (some ⟨X.heap.size, 0, none⟩) 0 0, .slice A l.length c]).run Tryz.prog (X.alloc (.cells #[] 67)) = .ok (.slice D1 l.length d1) w5 ∧
      (Builtin.append_ #[25, 25] 25 #[.slice D1 l.length d1, .slice (some ⟨w5.heap.size, 0, none⟩) 1 1]).run Tryz.prog (w5.alloc (.cells #[.int .i64 p.start, .string p.nm.1, .int .i64 p.nm.2, .int .i64 p.val] 67)) = .ok (.slice D2 (l.length + 1) d2) w6 ∧
      Below X.heap.size X w6 ∧ w6.cell? ⟨b, 4, none⟩ = some (.slice A l.length c) ∧ w6.frozen? ⟨b, 4, none⟩ = false ∧
      Tr base (w6.setCell ⟨b, 4, none⟩ (.slice D2 (l.length + 1) d2)) b t D2 d2 (l ++ [p]) := by
  have rc := OwK.rd h.own
  obtain ⟨D1, d1, w5, r1, o1, b1⟩ := preK elP rc (ptCells_one l) (Nat.le_refl _) (by omega)
  have e1 : (ptCells l).take (l.length * 4) = ptCells l := List.take_of_length_le (by rw [ptCells_length]; exact Nat.le_refl _)
  rw [e1] at o1
  obtain ⟨D2, d2, w6, r2, o2, b2, _⟩ := oneK elP o1 (es := ptOf p) rfl (fun u hu => by
    simp only [ptOf, List.mem_cons, List.not_mem_nil, or_false] at hu
    rcases hu with rfl | rfl | rfl | rfl <;> rfl) (ob := .cells #[.int .i64 p.start, .string p.nm.1, .int .i64 p.nm.2, .int .i64 p.val] 67) rfl (by omega) b1.size
  have b6 := b1.trans b2
  have h6 := h.still b6
  refine ⟨D1, d1, w5, D2, d2, w6, r1, r2, b6, h6.c4, h6.fr 4, ⟨?_, ?_⟩⟩
  · rw [List.length_append]
    rw [heap_set_same h6.blk]
    rfl
  · have e2 : ptCells (l ++ [p]) = ptCells l ++ ptOf p := by rw [ptCells_app]; simp [ptCells]
    rw [e2, List.length_append]
    have o3 : OwK w6 X.heap.size 67 4 D2 d2 (l.length + 1) (ptCells l ++ ptOf p) := o2
    have hb := h.lt
    refine OwK.mono (base := X.heap.size) (World.ownsRow.kept o3 (grown_set (grown_refl _ _) ⟨b, 4, none⟩ _ (.inl rfl)) ?_) hX
    cases e : (Value.slice D2 (l.length + 1) d2).ownBlock with
    | none => exact .inl rfl
    | some k => exact .inr (fun e' => by have := (OwK.lt o3 k e).1; cases e'; exact absurd (show X.heap.size ≤ b from this) (by omega))
set_option maxHeartbeats 8000000 in
set_option maxRecDepth 100000 in
theorem ref_add (base : Nat) (w : World) (b : Nat) (t : Tb) (A : Option Addr) (c : Nat) (l : List PtW) (h : Tr base w b t A c l) (hX : base ≤ w.heap.size) (hl : l.length ≤ 99) (hp : ∀ p ∈ l, PtOk p) (hg : GoodU t) (mark kd val time : Int) (key : ByteArray) (ok : Bool)
    (CO : ∀ w, Calls Tryz.prog 31 #[.string key] w (OfTold w ok)) (ha : AskT ok kd time) :
    Calls Tryz.prog 16 #[.pointer (some ⟨b, 0, none⟩), .int .i64 mark, .string key, .int .i64 kd, .int .i64 val, .int .i64 time] w (AddPost base w b t l (key, kd) (startOf t.wd time) val (startOf t.wd time + t.wd) mark) := by
  have CO := Lib.hid CO
  unfold OfTold at CO
  have HT := Lib.hid h
  have HX := Lib.hid hX
  have HL := Lib.hid hl
  have HG := Lib.hid hg
  have CR := Lib.hid (fun wx (hb : Below w.heap.size w wx) s => ref_rows base wx b t A c l (h.still hb) (by omega) hp s)
  have CSS := Lib.hid (fun wx (hb : Below w.heap.size w wx) => ref_starts base wx b t A c l (h.still hb) (by omega))
  have HKR : Hid (∀ s, (rowsW s l).length ≤ 99) := Lib.hid (fun s => Nat.le_trans (rows_le s l) hl)
  unfold RowsTold at CR
  unfold StartsTold at CSS
  obtain ⟨o1, k1, k3, t0, t1⟩ := ha
  subst o1
  have x1 : ¬ kd < 1 := by omega
  have x2 : ¬ 3 < kd := by omega
  have x3 : ¬ time < 0 := by omega
  have x4 : ¬ 1099511627776 < time := by omega
  have w1' := hg.w1
  have w2' := hg.w2
  have hne : ¬ t.wd = 0 := by omega
  obtain ⟨q, hq⟩ : ∃ q, time.tdiv t.wd = q := ⟨_, rfl⟩
  have hq' : time / t.wd = q := by rw [← hq, Int.tdiv_eq_ediv_of_nonneg t0]
  have hsm : q * t.wd = startOf t.wd time := by rw [← hq']; exact startOf_mul
  obtain ⟨sb0, sb1, sb2, sb3⟩ := startOf_bd w1' t0
  obtain ⟨s, hs⟩ : ∃ s, startOf t.wd time = s := ⟨_, rfl⟩
  rw [hs] at hsm sb0 sb1 sb2 ⊢
  have q0 : 0 ≤ q := by rw [← hq']; exact Int.ediv_nonneg t0 (by omega)
  have q1 : q ≤ time := by rw [← hq']; exact Int.ediv_le_self _ t0
  have z1 : IntKind.i64.wrap (time.tdiv t.wd) = q := by rw [hq, IntKind.wrap_i64]; omega
  have z2 : IntKind.i64.wrap (q * t.wd) = s := by rw [hsm, IntKind.wrap_i64]; omega
  obtain ⟨u, hu⟩ : ∃ u, s + t.wd = u := ⟨_, rfl⟩
  have z3 : IntKind.i64.wrap (s + t.wd) = u := by rw [hu, IntKind.wrap_i64]; omega
  rw [hu]
  clear h hX hl hp hg k1 k3 t0 t1 hq hq' hsm sb0 sb1 sb2 sb3 hs q0 q1 hu w1' w2'
  go_enter Tryz.func16, Tryz.ntmps16
  go_wp2_with fail
  refine (CO.out _).mono ?_
  rintro e w1 ⟨n, A', ln, c', rfl, b1⟩
  have B2 := Lib.hid (b1.trans (((Below.refl w1.heap.size w1).alloc (Nat.le_refl _) (Obj.cells #[.string n, .slice A' ln c', .int .i64 0, .int .i64 0, .int .i64 0] 78)).mono b1.size))
  clear b1 CO
  have c0 := (HT.out.still B2.out).c0
  go_wp2_with fail
  generalize hW : w1.alloc (Obj.cells #[.string n, .slice A' ln c', .int .i64 0, .int .i64 0, .int .i64 0] 78) = w2 at B2 c0 ⊢
  clear hW
  go_quiet (fail)
  have B3 := Lib.hid (B2.out.trans ((below_drewN w2 nq).mono B2.out.size))
  have c03 : (w2.drewN nq).cell? ⟨b, 0, none⟩ = some (.int .i64 t.wd) := c0
  clear c0 B2
  generalize hW : w2.drewN nq = w3 at B3 c03 ⊢
  clear hW
  by_cases late : u ≤ mark
  · go_wp2_with fail
    go_ret
    exact .inl ⟨late, HT.out.kp rfl B3.out⟩
  · have LT := Lib.hid late
    have late' : mark < u := by omega
    go_wp2_with fail
    refine (CR.out w3 B3.out s).mono ?_
    rintro e w4 ⟨x, D, d, rfl, hx, ox, b4⟩
    have HXE := Lib.hid hx
    have OX := Lib.hid ox.own
    have B4 := Lib.hid (B3.out.trans (b4.mono B3.out.size))
    have hxl := HKR.out s
    rw [← hx, List.length_map] at hxl
    clear ox b4 CR c03 hx late late'
    obtain ⟨R, hR⟩ : ∃ R, rowsW s l = R := ⟨_, rfl⟩
    have HR := Lib.hid hR
    have HXR : Hid (x.map (·.1) = R) := Lib.hid (by rw [HXE.out, hR])
    clear hR HXE
    go_wp2_with fail
    go_loopg [17, 18] (x.length) (fun g s17 s18 wx => ∃ (i : Nat), i + g = x.length ∧ s17 = .bool (hasW (key, kd) (R.take i)) ∧ s18 = .int .i64 i ∧ Hid (wx = w4))
    case atStart => exact ⟨0, by omega, rfl, rfl, Lib.hid rfl⟩
    case round =>
      obtain ⟨i, hig, rfl, rfl, HW⟩ := hrel
      have hw := HW.out
      subst hw
      clear HW
      cases gk with
      | succ g =>
        have x5 : i < x.length := by omega
        obtain ⟨z, hz⟩ : ∃ z, x[i]? = some z := ⟨_, List.getElem?_eq_getElem x5⟩
        have HN := Lib.hid (has_next (n := (key, kd)) (l := R) (i := i) (r := z.1) (by rw [← HXR.out, List.getElem?_map, hz]; rfl))
        obtain ⟨gd, rfl, hgd, hcd⟩ := OwK.at OX.out (by omega)
        have kk := rowCells_at x i z hz
        have z0 := hcd _ _ (kk 0 (by omega))
        have z9 := hcd _ _ (kk 1 (by omega))
        have z0 : wr.cell? ⟨gd, i * 8, none⟩ = some (.string z.1.key) := z0
        have z9 : wr.cell? ⟨gd, i * 8 + 1, none⟩ = some (.int .i64 z.1.kind) := z9
        clear hcd kk hz hgd
        cases hm : hasW (key, kd) (R.take i) with
        | true =>
          have HN' : Hid (hasW (key, kd) (R.take (i + 1)) = true) := Lib.hid (by rw [HN.out, hm]; rfl)
          clear hm HN
          go_wp2_with fail
          go_roundg g
          case rel => exact ⟨i + 1, by omega, by rw [HN'.out], by go_num, Lib.hid rfl⟩
          case measure => omega
        | false =>
          by_cases hk : z.1.key = key
          · have y2 := Lib.hid ((eqW z.1.key key).trans (decide_eq_true hk))
            have hb : (z.1.key.toList == key.toList) = true := y2.out
            by_cases hq : z.1.kind = kd
            · have HN' : Hid (hasW (key, kd) (R.take (i + 1)) = true) := Lib.hid (by rw [HN.out, hm, decide_eq_true (show nmR z.1 = (key, kd) from Prod.ext hk hq)]; rfl)
              clear hm HN hk
              go_wp2_with fail
              go_roundg g
              case rel => exact ⟨i + 1, by omega, by rw [HN'.out], by go_num, Lib.hid rfl⟩
              case measure => omega
            · have HN' : Hid (hasW (key, kd) (R.take (i + 1)) = false) := Lib.hid (by rw [HN.out, hm, decide_eq_false (show nmR z.1 ≠ (key, kd) from fun e => hq (congrArg Prod.snd e))]; rfl)
              have hq2 : (z.1.kind == kd) = false := beq_eq_false_iff_ne.2 hq
              clear hm HN hk
              go_wp2_with fail
              go_roundg g
              case rel => exact ⟨i + 1, by omega, by rw [HN'.out], by go_num, Lib.hid rfl⟩
              case measure => omega
          · have hb : (z.1.key.toList == key.toList) = false := (eqW z.1.key key).trans (decide_eq_false hk)
            have HN' : Hid (hasW (key, kd) (R.take (i + 1)) = false) := Lib.hid (by rw [HN.out, hm, decide_eq_false (show nmR z.1 ≠ (key, kd) from fun e => hk (congrArg Prod.fst e))]; rfl)
            clear hm HN hk
            go_wp2_with fail
            go_roundg g
            case rel => exact ⟨i + 1, by omega, by rw [HN'.out], by go_num, Lib.hid rfl⟩
            case measure => omega
      | zero =>
        obtain rfl : i = x.length := by omega
        have x5 : ¬ x.length < x.length := by omega
        have HTK : Hid (R.take x.length = R) := Lib.hid (List.take_of_length_le (by rw [← HXR.out, List.length_map]; exact Nat.le_refl _))
        have HM : Hid (hasW (key, kd) (R.take x.length) = hasW (key, kd) R) := Lib.hid (by rw [HTK.out])
        have HRL : Hid (R.length = x.length) := Lib.hid (by rw [← HXR.out, List.length_map])
        have HSA : Hid (∀ wx, Below wr.heap.size wr wx → wx.cell? ⟨b, 1, none⟩ = some (.int .i64 t.wi) ∧ wx.cell? ⟨b, 2, none⟩ = some (.int .i64 t.ro)) := Lib.hid (fun wx hb => by
          have := HT.out.still (B4.out.trans (hb.mono B4.out.size))
          exact ⟨this.c1, this.c2⟩)
        have CS : Hid (∀ wx, Below wr.heap.size wr wx → Calls Tryz.prog 18 #[.pointer (some ⟨b, 0, none⟩)] wx fun e w' => ∃ D d, e = .returned (.slice D (startsW l).length d) ∧ OwK w' wx.heap.size 2 1 D d (startsW l).length (zCells (startsW l)) ∧ Below wx.heap.size wx w') := Lib.hid (fun wx hb => CSS.out wx (B4.out.trans (hb.mono B4.out.size)))
        clear CSS hig

        have hro := HG.out.r1
        rcases Nat.eq_zero_or_pos x.length with h0 | h0
        · have hR0 : R = [] := List.length_eq_zero_iff.1 (by have := HRL.out; omega)
          have hm0 : hasW (key, kd) (R.take x.length) = false := by rw [HM.out, hR0]; rfl
          have xl0 : x.length = 0 := h0
          by_cases hs : t.wi ≤ (startsW l).length
          · have HF : Hid (fullW t (key, kd) s l) := Lib.hid (.inl ⟨by rw [HR.out]; exact hR0, hs⟩)
            have y1 := Lib.hid (decide_eq_true hs)
            rw [hm0, xl0]
            clear hm0 xl0 h0 hs hR0 x5
            go_wp2_with fail
            have y1' := y1.out
            refine wp_region_held_drew (S := fun w' => w'.cell? ⟨b, 1, none⟩ = some (.int .i64 t.wi) ∧ w'.cell? ⟨b, 2, none⟩ = some (.int .i64 t.ro)) (by kernel_rfl) (by exact HSA.out _ (below_drew _)) (fun hHeld0 => ?_)
            refine takeWa 0 89 (v := ?vv0c1) rfl rfl (by kernel_rfl) (by kernel_rfl) (by kernel_rfl) (fun _ _ _ h => h) (by kernel_rfl) ?hy0c1 (by assumption) ?rest0c1
            case hy0c1 => (intro wq hSw; obtain ⟨hS1, hS2⟩ := hSw; go_simp <;> with_reducible rfl)
            simp only [Act.put, List.setIfInBounds_toArray, List.set_cons_zero, List.set_cons_succ]
            refine takeWa 1 90 (v := ?vv1c1) rfl rfl (by kernel_rfl) (by kernel_rfl) (by kernel_rfl) (fun _ _ _ h => h) (by kernel_rfl) ?hy1c1 (by assumption) ?rest1c1
            case hy1c1 => (intro wq hSw; obtain ⟨hS1, hS2⟩ := hSw; go_simp <;> with_reducible rfl)
            simp only [Act.put, List.setIfInBounds_toArray, List.set_cons_zero, List.set_cons_succ]
            refine takeWa 2 91 (v := ?vv2c1) rfl rfl (by kernel_rfl) (by kernel_rfl) (by kernel_rfl) (fun _ _ _ h => h) (by kernel_rfl) ?hy2c1 (by assumption) ?rest2c1
            case hy2c1 => (intro wq hSw; obtain ⟨hS1, hS2⟩ := hSw; go_simp <;> with_reducible rfl)
            simp only [Act.put, List.setIfInBounds_toArray, List.set_cons_zero, List.set_cons_succ]
            refine takeWa 3 92 (v := ?vv3c1) rfl rfl (by kernel_rfl) (by kernel_rfl) (by kernel_rfl) (fun _ _ _ h => h) (by kernel_rfl) ?hy3c1 (by assumption) ?rest3c1
            case hy3c1 => (intro wq hSw; obtain ⟨hS1, hS2⟩ := hSw; go_simp <;> with_reducible rfl)
            simp only [Act.put, List.setIfInBounds_toArray, List.set_cons_zero, List.set_cons_succ]
            refine takeWa 4 93 (v := ?vv4c1) rfl rfl (by kernel_rfl) (by kernel_rfl) (by kernel_rfl) (fun _ _ _ h => h) (by kernel_rfl) ?hy4c1 (by assumption) ?rest4c1
            case hy4c1 => (intro wq hSw; obtain ⟨hS1, hS2⟩ := hSw; go_simp <;> with_reducible rfl)
            simp only [Act.put, List.setIfInBounds_toArray, List.set_cons_zero, List.set_cons_succ]
            refine takeWa 7 96 (v := ?vv7c1) rfl rfl (by kernel_rfl) (by kernel_rfl) (by kernel_rfl) (fun _ _ _ h => h) (by kernel_rfl) ?hy7c1 (by assumption) ?rest7c1
            case hy7c1 => (intro wq hSw; obtain ⟨hS1, hS2⟩ := hSw; go_simp <;> with_reducible rfl)
            simp only [Act.put, List.setIfInBounds_toArray, List.set_cons_zero, List.set_cons_succ]
            refine takeWa 8 97 (v := ?vv8c1) rfl rfl (by kernel_rfl) (by kernel_rfl) (by kernel_rfl) (fun _ _ _ h => h) (by kernel_rfl) ?hy8c1 (by assumption) ?rest8c1
            case hy8c1 => (intro wq hSw; obtain ⟨hS1, hS2⟩ := hSw; go_simp <;> with_reducible rfl)
            simp only [Act.put, List.setIfInBounds_toArray, List.set_cons_zero, List.set_cons_succ]
            refine takeWa 9 98 (v := ?vv9c1) rfl rfl (by kernel_rfl) (by kernel_rfl) (by kernel_rfl) (fun _ _ _ h => h) (by kernel_rfl) ?hy9c1 (by assumption) ?rest9c1
            case hy9c1 => (intro wq hSw; obtain ⟨hS1, hS2⟩ := hSw; go_simp <;> with_reducible rfl)
            simp only [Act.put, List.setIfInBounds_toArray, List.set_cons_zero, List.set_cons_succ]
            refine takeWa 10 99 (v := ?vv10c1) rfl rfl (by kernel_rfl) (by kernel_rfl) (by kernel_rfl) (fun _ _ _ h => h) (by kernel_rfl) ?hy10c1 (by assumption) ?rest10c1
            case hy10c1 => (intro wq hSw; obtain ⟨hS1, hS2⟩ := hSw; go_simp <;> with_reducible rfl)
            simp only [Act.put, List.setIfInBounds_toArray, List.set_cons_zero, List.set_cons_succ]
            refine wpAnyH_ready (rs := [5]) (by kernel_rfl) (by simp) ?_
            refine AllReadyH.cons rfl (fun K hK => ?_) AllReadyH.nil
            go_simp
            go_wp2_with ((go_at_call 18; (with_reducible refine (CS.out _ (below_drew _)).mono ?_); rintro e w5 ⟨D5, d5, rfl, _, b5⟩))
            refine hK.out _ _ (by exact HSA.out _ ((below_drew _).trans (b5.mono (below_drew _).size))) (fun hHeld => ?_)
            clear hK K hHeld0
            refine takeWa 6 95 (v := ?vv6c1) rfl rfl (by kernel_rfl) (by kernel_rfl) (by kernel_rfl) (fun _ _ _ h => h) (by kernel_rfl) ?hy6c1 (by assumption) ?rest6c1
            case hy6c1 => (intro wq hSw; obtain ⟨hS1, hS2⟩ := hSw; go_simp <;> with_reducible rfl)
            simp only [Act.put, List.setIfInBounds_toArray, List.set_cons_zero, List.set_cons_succ]
            refine takeWa 11 100 (v := ?vv11c1) rfl rfl (by kernel_rfl) (by kernel_rfl) (by kernel_rfl) (fun _ _ _ h => h) (by kernel_rfl) ?hy11c1 (by assumption) ?rest11c1
            case hy11c1 => (intro wq hSw; obtain ⟨hS1, hS2⟩ := hSw; go_simp <;> with_reducible rfl)
            simp only [Act.put, List.setIfInBounds_toArray, List.set_cons_zero, List.set_cons_succ]
            refine takeWa 12 101 (v := ?vv12c1) rfl rfl (by kernel_rfl) (by kernel_rfl) (by kernel_rfl) (fun _ _ _ h => h) (by kernel_rfl) ?hy12c1 (by assumption) ?rest12c1
            case hy12c1 => (intro wq hSw; obtain ⟨hS1, hS2⟩ := hSw; go_simp <;> with_reducible rfl)
            simp only [Act.put, List.setIfInBounds_toArray, List.set_cons_zero, List.set_cons_succ]
            refine takeWa 13 102 (v := ?vv13c1) rfl rfl (by kernel_rfl) (by kernel_rfl) (by kernel_rfl) (fun _ _ _ h => h) (by kernel_rfl) ?hy13c1 (by assumption) ?rest13c1
            case hy13c1 => (intro wq hSw; obtain ⟨hS1, hS2⟩ := hSw; go_simp <;> with_reducible rfl)
            simp only [Act.put, List.setIfInBounds_toArray, List.set_cons_zero, List.set_cons_succ]
            refine takeSk 14 103 rfl rfl (by kernel_rfl) (by kernel_rfl) (by kernel_rfl) (fun _ _ _ h => h) (by kernel_rfl) (by assumption) ?_
            simp only [Act.put, List.setIfInBounds_toArray, List.set_cons_zero, List.set_cons_succ]
            refine takeSk 15 104 rfl rfl (by kernel_rfl) (by kernel_rfl) (by kernel_rfl) (fun _ _ _ h => h) (by kernel_rfl) (by assumption) ?_
            simp only [Act.put, List.setIfInBounds_toArray, List.set_cons_zero, List.set_cons_succ]
            refine takeSk 16 105 rfl rfl (by kernel_rfl) (by kernel_rfl) (by kernel_rfl) (fun _ _ _ h => h) (by kernel_rfl) (by assumption) ?_
            simp only [Act.put, List.setIfInBounds_toArray, List.set_cons_zero, List.set_cons_succ]
            refine takeSk 17 106 rfl rfl (by kernel_rfl) (by kernel_rfl) (by kernel_rfl) (fun _ _ _ h => h) (by kernel_rfl) (by assumption) ?_
            simp only [Act.put, List.setIfInBounds_toArray, List.set_cons_zero, List.set_cons_succ]
            refine takeSk 18 107 rfl rfl (by kernel_rfl) (by kernel_rfl) (by kernel_rfl) (fun _ _ _ h => h) (by kernel_rfl) (by assumption) ?_
            simp only [Act.put, List.setIfInBounds_toArray, List.set_cons_zero, List.set_cons_succ]
            refine takeSk 19 108 rfl rfl (by kernel_rfl) (by kernel_rfl) (by kernel_rfl) (fun _ _ _ h => h) (by kernel_rfl) (by assumption) ?_
            simp only [Act.put, List.setIfInBounds_toArray, List.set_cons_zero, List.set_cons_succ]
            refine takeSk 20 109 rfl rfl (by kernel_rfl) (by kernel_rfl) (by kernel_rfl) (fun _ _ _ h => h) (by kernel_rfl) (by assumption) ?_
            simp only [Act.put, List.setIfInBounds_toArray, List.set_cons_zero, List.set_cons_succ]
            refine takeSk 21 110 rfl rfl (by kernel_rfl) (by kernel_rfl) (by kernel_rfl) (fun _ _ _ h => h) (by kernel_rfl) (by assumption) ?_
            simp only [Act.put, List.setIfInBounds_toArray, List.set_cons_zero, List.set_cons_succ]
            refine takeSk 22 111 rfl rfl (by kernel_rfl) (by kernel_rfl) (by kernel_rfl) (fun _ _ _ h => h) (by kernel_rfl) (by assumption) ?_
            simp only [Act.put, List.setIfInBounds_toArray, List.set_cons_zero, List.set_cons_succ]
            refine takeSk 23 112 rfl rfl (by kernel_rfl) (by kernel_rfl) (by kernel_rfl) (fun _ _ _ h => h) (by kernel_rfl) (by assumption) ?_
            simp only [Act.put, List.setIfInBounds_toArray, List.set_cons_zero, List.set_cons_succ]
            refine takeSk 24 113 rfl rfl (by kernel_rfl) (by kernel_rfl) (by kernel_rfl) (fun _ _ _ h => h) (by kernel_rfl) (by assumption) ?_
            simp only [Act.put, List.setIfInBounds_toArray, List.set_cons_zero, List.set_cons_succ]
            refine takeWa 25 114 (v := ?vv25c1) rfl rfl (by kernel_rfl) (by kernel_rfl) (by kernel_rfl) (fun _ _ _ h => h) (by kernel_rfl) ?hy25c1 (by assumption) ?rest25c1
            case hy25c1 => (intro wq hSw; obtain ⟨hS1, hS2⟩ := hSw; go_simp <;> with_reducible rfl)
            simp only [Act.put, List.setIfInBounds_toArray, List.set_cons_zero, List.set_cons_succ]
            refine wpAnyH_done (by kernel_rfl) ?_ _
            clear hHeld
            have B5 : Hid (Below wr.heap.size wr w5) := Lib.hid ((below_drew _).trans (b5.mono (below_drew _).size))
            have hs' := of_decide_eq_true y1.out
            go_wp2_with fail
            go_ret
            exact .inr (.inl ⟨(by have := LT.out; omega), HF.out, HT.out.kp rfl (B4.out.trans (B5.out.mono B4.out.size))⟩)
          · have HF : Hid (¬ fullW t (key, kd) s l) := Lib.hid (fun e => by rcases e with ⟨_, e⟩ | ⟨_, e⟩; exact hs e; rw [HR.out, hR0] at e; simp at e; omega)
            have y1 := Lib.hid (decide_eq_false hs)
            have y2 := Lib.hid (decide_eq_false (show ¬ t.ro ≤ ((0 : Nat) : Int) by have := HG.out.r1; omega))
            rw [hm0, xl0]
            clear hm0 xl0 h0 hs hR0 x5
            go_wp2_with fail
            have y1' := y1.out
            have y2' := y2.out
            refine wp_region_held_drew (S := fun w' => w'.cell? ⟨b, 1, none⟩ = some (.int .i64 t.wi) ∧ w'.cell? ⟨b, 2, none⟩ = some (.int .i64 t.ro)) (by kernel_rfl) (by exact HSA.out _ (below_drew _)) (fun hHeld0 => ?_)
            refine takeWa 0 89 (v := ?vv0c2) rfl rfl (by kernel_rfl) (by kernel_rfl) (by kernel_rfl) (fun _ _ _ h => h) (by kernel_rfl) ?hy0c2 (by assumption) ?rest0c2
            case hy0c2 => (intro wq hSw; obtain ⟨hS1, hS2⟩ := hSw; go_simp <;> with_reducible rfl)
            simp only [Act.put, List.setIfInBounds_toArray, List.set_cons_zero, List.set_cons_succ]
            refine takeWa 1 90 (v := ?vv1c2) rfl rfl (by kernel_rfl) (by kernel_rfl) (by kernel_rfl) (fun _ _ _ h => h) (by kernel_rfl) ?hy1c2 (by assumption) ?rest1c2
            case hy1c2 => (intro wq hSw; obtain ⟨hS1, hS2⟩ := hSw; go_simp <;> with_reducible rfl)
            simp only [Act.put, List.setIfInBounds_toArray, List.set_cons_zero, List.set_cons_succ]
            refine takeWa 2 91 (v := ?vv2c2) rfl rfl (by kernel_rfl) (by kernel_rfl) (by kernel_rfl) (fun _ _ _ h => h) (by kernel_rfl) ?hy2c2 (by assumption) ?rest2c2
            case hy2c2 => (intro wq hSw; obtain ⟨hS1, hS2⟩ := hSw; go_simp <;> with_reducible rfl)
            simp only [Act.put, List.setIfInBounds_toArray, List.set_cons_zero, List.set_cons_succ]
            refine takeWa 3 92 (v := ?vv3c2) rfl rfl (by kernel_rfl) (by kernel_rfl) (by kernel_rfl) (fun _ _ _ h => h) (by kernel_rfl) ?hy3c2 (by assumption) ?rest3c2
            case hy3c2 => (intro wq hSw; obtain ⟨hS1, hS2⟩ := hSw; go_simp <;> with_reducible rfl)
            simp only [Act.put, List.setIfInBounds_toArray, List.set_cons_zero, List.set_cons_succ]
            refine takeWa 4 93 (v := ?vv4c2) rfl rfl (by kernel_rfl) (by kernel_rfl) (by kernel_rfl) (fun _ _ _ h => h) (by kernel_rfl) ?hy4c2 (by assumption) ?rest4c2
            case hy4c2 => (intro wq hSw; obtain ⟨hS1, hS2⟩ := hSw; go_simp <;> with_reducible rfl)
            simp only [Act.put, List.setIfInBounds_toArray, List.set_cons_zero, List.set_cons_succ]
            refine takeWa 7 96 (v := ?vv7c2) rfl rfl (by kernel_rfl) (by kernel_rfl) (by kernel_rfl) (fun _ _ _ h => h) (by kernel_rfl) ?hy7c2 (by assumption) ?rest7c2
            case hy7c2 => (intro wq hSw; obtain ⟨hS1, hS2⟩ := hSw; go_simp <;> with_reducible rfl)
            simp only [Act.put, List.setIfInBounds_toArray, List.set_cons_zero, List.set_cons_succ]
            refine takeWa 8 97 (v := ?vv8c2) rfl rfl (by kernel_rfl) (by kernel_rfl) (by kernel_rfl) (fun _ _ _ h => h) (by kernel_rfl) ?hy8c2 (by assumption) ?rest8c2
            case hy8c2 => (intro wq hSw; obtain ⟨hS1, hS2⟩ := hSw; go_simp <;> with_reducible rfl)
            simp only [Act.put, List.setIfInBounds_toArray, List.set_cons_zero, List.set_cons_succ]
            refine takeWa 9 98 (v := ?vv9c2) rfl rfl (by kernel_rfl) (by kernel_rfl) (by kernel_rfl) (fun _ _ _ h => h) (by kernel_rfl) ?hy9c2 (by assumption) ?rest9c2
            case hy9c2 => (intro wq hSw; obtain ⟨hS1, hS2⟩ := hSw; go_simp <;> with_reducible rfl)
            simp only [Act.put, List.setIfInBounds_toArray, List.set_cons_zero, List.set_cons_succ]
            refine takeWa 10 99 (v := ?vv10c2) rfl rfl (by kernel_rfl) (by kernel_rfl) (by kernel_rfl) (fun _ _ _ h => h) (by kernel_rfl) ?hy10c2 (by assumption) ?rest10c2
            case hy10c2 => (intro wq hSw; obtain ⟨hS1, hS2⟩ := hSw; go_simp <;> with_reducible rfl)
            simp only [Act.put, List.setIfInBounds_toArray, List.set_cons_zero, List.set_cons_succ]
            refine wpAnyH_ready (rs := [5]) (by kernel_rfl) (by simp) ?_
            refine AllReadyH.cons rfl (fun K hK => ?_) AllReadyH.nil
            go_simp
            go_wp2_with ((go_at_call 18; (with_reducible refine (CS.out _ (below_drew _)).mono ?_); rintro e w5 ⟨D5, d5, rfl, _, b5⟩))
            refine hK.out _ _ (by exact HSA.out _ ((below_drew _).trans (b5.mono (below_drew _).size))) (fun hHeld => ?_)
            clear hK K hHeld0
            refine takeWa 6 95 (v := ?vv6c2) rfl rfl (by kernel_rfl) (by kernel_rfl) (by kernel_rfl) (fun _ _ _ h => h) (by kernel_rfl) ?hy6c2 (by assumption) ?rest6c2
            case hy6c2 => (intro wq hSw; obtain ⟨hS1, hS2⟩ := hSw; go_simp <;> with_reducible rfl)
            simp only [Act.put, List.setIfInBounds_toArray, List.set_cons_zero, List.set_cons_succ]
            refine takeWa 11 100 (v := ?vv11c2) rfl rfl (by kernel_rfl) (by kernel_rfl) (by kernel_rfl) (fun _ _ _ h => h) (by kernel_rfl) ?hy11c2 (by assumption) ?rest11c2
            case hy11c2 => (intro wq hSw; obtain ⟨hS1, hS2⟩ := hSw; go_simp <;> with_reducible rfl)
            simp only [Act.put, List.setIfInBounds_toArray, List.set_cons_zero, List.set_cons_succ]
            refine takeWa 12 101 (v := ?vv12c2) rfl rfl (by kernel_rfl) (by kernel_rfl) (by kernel_rfl) (fun _ _ _ h => h) (by kernel_rfl) ?hy12c2 (by assumption) ?rest12c2
            case hy12c2 => (intro wq hSw; obtain ⟨hS1, hS2⟩ := hSw; go_simp <;> with_reducible rfl)
            simp only [Act.put, List.setIfInBounds_toArray, List.set_cons_zero, List.set_cons_succ]
            refine takeWa 13 102 (v := ?vv13c2) rfl rfl (by kernel_rfl) (by kernel_rfl) (by kernel_rfl) (fun _ _ _ h => h) (by kernel_rfl) ?hy13c2 (by assumption) ?rest13c2
            case hy13c2 => (intro wq hSw; obtain ⟨hS1, hS2⟩ := hSw; go_simp <;> with_reducible rfl)
            simp only [Act.put, List.setIfInBounds_toArray, List.set_cons_zero, List.set_cons_succ]
            refine takeWa 14 103 (v := ?vv14c2) rfl rfl (by kernel_rfl) (by kernel_rfl) (by kernel_rfl) (fun _ _ _ h => h) (by kernel_rfl) ?hy14c2 (by assumption) ?rest14c2
            case hy14c2 => (intro wq hSw; obtain ⟨hS1, hS2⟩ := hSw; go_simp <;> with_reducible rfl)
            simp only [Act.put, List.setIfInBounds_toArray, List.set_cons_zero, List.set_cons_succ]
            refine takeWa 15 104 (v := ?vv15c2) rfl rfl (by kernel_rfl) (by kernel_rfl) (by kernel_rfl) (fun _ _ _ h => h) (by kernel_rfl) ?hy15c2 (by assumption) ?rest15c2
            case hy15c2 => (intro wq hSw; obtain ⟨hS1, hS2⟩ := hSw; go_simp <;> with_reducible rfl)
            simp only [Act.put, List.setIfInBounds_toArray, List.set_cons_zero, List.set_cons_succ]
            refine takeWa 16 105 (v := ?vv16c2) rfl rfl (by kernel_rfl) (by kernel_rfl) (by kernel_rfl) (fun _ _ _ h => h) (by kernel_rfl) ?hy16c2 (by assumption) ?rest16c2
            case hy16c2 => (intro wq hSw; obtain ⟨hS1, hS2⟩ := hSw; go_simp <;> with_reducible rfl)
            simp only [Act.put, List.setIfInBounds_toArray, List.set_cons_zero, List.set_cons_succ]
            refine takeWa 17 106 (v := ?vv17c2) rfl rfl (by kernel_rfl) (by kernel_rfl) (by kernel_rfl) (fun _ _ _ h => h) (by kernel_rfl) ?hy17c2 (by assumption) ?rest17c2
            case hy17c2 => (intro wq hSw; obtain ⟨hS1, hS2⟩ := hSw; go_simp <;> with_reducible rfl)
            simp only [Act.put, List.setIfInBounds_toArray, List.set_cons_zero, List.set_cons_succ]
            refine takeWa 18 107 (v := ?vv18c2) rfl rfl (by kernel_rfl) (by kernel_rfl) (by kernel_rfl) (fun _ _ _ h => h) (by kernel_rfl) ?hy18c2 (by assumption) ?rest18c2
            case hy18c2 => (intro wq hSw; obtain ⟨hS1, hS2⟩ := hSw; go_simp <;> with_reducible rfl)
            simp only [Act.put, List.setIfInBounds_toArray, List.set_cons_zero, List.set_cons_succ]
            refine takeWa 19 108 (v := ?vv19c2) rfl rfl (by kernel_rfl) (by kernel_rfl) (by kernel_rfl) (fun _ _ _ h => h) (by kernel_rfl) ?hy19c2 (by assumption) ?rest19c2
            case hy19c2 => (intro wq hSw; obtain ⟨hS1, hS2⟩ := hSw; go_simp <;> with_reducible rfl)
            simp only [Act.put, List.setIfInBounds_toArray, List.set_cons_zero, List.set_cons_succ]
            refine takeWa 20 109 (v := ?vv20c2) rfl rfl (by kernel_rfl) (by kernel_rfl) (by kernel_rfl) (fun _ _ _ h => h) (by kernel_rfl) ?hy20c2 (by assumption) ?rest20c2
            case hy20c2 => (intro wq hSw; obtain ⟨hS1, hS2⟩ := hSw; go_simp <;> with_reducible rfl)
            simp only [Act.put, List.setIfInBounds_toArray, List.set_cons_zero, List.set_cons_succ]
            refine takeWa 21 110 (v := ?vv21c2) rfl rfl (by kernel_rfl) (by kernel_rfl) (by kernel_rfl) (fun _ _ _ h => h) (by kernel_rfl) ?hy21c2 (by assumption) ?rest21c2
            case hy21c2 => (intro wq hSw; obtain ⟨hS1, hS2⟩ := hSw; go_simp <;> with_reducible rfl)
            simp only [Act.put, List.setIfInBounds_toArray, List.set_cons_zero, List.set_cons_succ]
            refine takeWa 22 111 (v := ?vv22c2) rfl rfl (by kernel_rfl) (by kernel_rfl) (by kernel_rfl) (fun _ _ _ h => h) (by kernel_rfl) ?hy22c2 (by assumption) ?rest22c2
            case hy22c2 => (intro wq hSw; obtain ⟨hS1, hS2⟩ := hSw; go_simp <;> with_reducible rfl)
            simp only [Act.put, List.setIfInBounds_toArray, List.set_cons_zero, List.set_cons_succ]
            refine takeWa 23 112 (v := ?vv23c2) rfl rfl (by kernel_rfl) (by kernel_rfl) (by kernel_rfl) (fun _ _ _ h => h) (by kernel_rfl) ?hy23c2 (by assumption) ?rest23c2
            case hy23c2 => (intro wq hSw; obtain ⟨hS1, hS2⟩ := hSw; go_simp <;> with_reducible rfl)
            simp only [Act.put, List.setIfInBounds_toArray, List.set_cons_zero, List.set_cons_succ]
            refine takeWa 24 113 (v := ?vv24c2) rfl rfl (by kernel_rfl) (by kernel_rfl) (by kernel_rfl) (fun _ _ _ h => h) (by kernel_rfl) ?hy24c2 (by assumption) ?rest24c2
            case hy24c2 => (intro wq hSw; obtain ⟨hS1, hS2⟩ := hSw; go_simp <;> with_reducible rfl)
            simp only [Act.put, List.setIfInBounds_toArray, List.set_cons_zero, List.set_cons_succ]
            refine takeWa 25 114 (v := ?vv25c2) rfl rfl (by kernel_rfl) (by kernel_rfl) (by kernel_rfl) (fun _ _ _ h => h) (by kernel_rfl) ?hy25c2 (by assumption) ?rest25c2
            case hy25c2 => (intro wq hSw; obtain ⟨hS1, hS2⟩ := hSw; go_simp <;> with_reducible rfl)
            simp only [Act.put, List.setIfInBounds_toArray, List.set_cons_zero, List.set_cons_succ]
            refine wpAnyH_done (by kernel_rfl) ?_ _
            clear hHeld
            have B5 : Hid (Below wr.heap.size wr w5) := Lib.hid ((below_drew _).trans (b5.mono (below_drew _).size))
            have hs' := of_decide_eq_false y1.out
            have T5 := Lib.hid (HT.out.still (B4.out.trans (B5.out.mono B4.out.size)))
            have BX := Lib.hid (B4.out.trans (B5.out.mono B4.out.size))
            obtain ⟨D1, d1, w8, D2, d2, w6, r1, r2, b6, c6, f6, T6⟩ := put_pre T5.out (Nat.le_trans HX.out BX.out.size) (by have := HL.out; omega) ⟨s, (key, kd), val⟩
            dsimp only at r2
            have c4 : (w5.alloc (.cells #[] 67)).cell? ⟨b, 4, none⟩ = some (.slice A l.length c) := (T5.out.still ((Below.refl _ w5).alloc (Nat.le_refl _) _)).c4
            have R1 := Lib.hid r1
            have R2 := Lib.hid r2
            have T6 := Lib.hid T6
            have KP : Hid (Keeps (fun g => g = b) w (w6.setCell ⟨b, 4, none⟩ (.slice D2 (l.length + 1) d2))) := Lib.hid ((Keeps.of_below (BX.out.trans (b6.mono BX.out.size)) (Nat.le_refl _) _).set _ _ (.inl rfl))
            clear r1 r2 b6 T5
            go_wp2_with (first
              | (at_builtin; refine wpK_app rfl (.tmp 116) (.tmp 120) 25 rfl _ _ _ rfl rfl R1.out ?_)
              | (at_builtin; refine wpK_app rfl (.tmp 121) (.tmp 127) 25 rfl _ _ _ rfl rfl R2.out ?_)
              | fail)
            go_ret
            exact .inr (.inr ⟨(by have := LT.out; omega), HF.out, rfl, ⟨_, _, T6.out⟩, KP.out⟩)
        · have hR0 : R ≠ [] := fun e => by rw [e] at HRL; have := HRL.out; simp at this; omega
          obtain ⟨K, hK⟩ : ∃ K, x.length = K := ⟨_, rfl⟩
          have HKK := Lib.hid hK
          have xl0 : ¬ K = 0 := by omega
          have xb : decide ((K : Int) = 0) = false := decide_eq_false (by omega)
          have xc : ((K : Int) == 0) = false := beq_eq_false_iff_ne.2 (by omega)
          have XL := Lib.hid xl0
          have XB := Lib.hid xb
          have XC := Lib.hid xc
          cases hm : hasW (key, kd) R with
          | true =>
            have HF : Hid (¬ fullW t (key, kd) s l) := Lib.hid (fun e => by rcases e with ⟨e, _⟩ | ⟨e, _⟩; exact hR0 (by rw [← HR.out]; exact e); rw [HR.out, ← has_get, hm] at e; cases e)
            rw [HM.out, hm, hK]
            clear hm h0 hR0 x5 xl0 xb xc hK
            go_wp2_with fail
            have xb := XB.out
            have xc := XC.out
            have xl0 := XL.out
            refine wp_region_held_drew (S := fun w' => w'.cell? ⟨b, 1, none⟩ = some (.int .i64 t.wi) ∧ w'.cell? ⟨b, 2, none⟩ = some (.int .i64 t.ro)) (by kernel_rfl) (by exact HSA.out _ (below_drew _)) (fun hHeld0 => ?_)
            refine takeWa 0 89 (v := ?vv0c3) rfl rfl (by kernel_rfl) (by kernel_rfl) (by kernel_rfl) (fun _ _ _ h => h) (by kernel_rfl) ?hy0c3 (by assumption) ?rest0c3
            case hy0c3 => (intro wq hSw; obtain ⟨hS1, hS2⟩ := hSw; go_simp <;> with_reducible rfl)
            simp only [Act.put, List.setIfInBounds_toArray, List.set_cons_zero, List.set_cons_succ]
            refine takeWa 1 90 (v := ?vv1c3) rfl rfl (by kernel_rfl) (by kernel_rfl) (by kernel_rfl) (fun _ _ _ h => h) (by kernel_rfl) ?hy1c3 (by assumption) ?rest1c3
            case hy1c3 => (intro wq hSw; obtain ⟨hS1, hS2⟩ := hSw; go_simp <;> with_reducible rfl)
            simp only [Act.put, List.setIfInBounds_toArray, List.set_cons_zero, List.set_cons_succ]
            refine takeWa 2 91 (v := ?vv2c3) rfl rfl (by kernel_rfl) (by kernel_rfl) (by kernel_rfl) (fun _ _ _ h => h) (by kernel_rfl) ?hy2c3 (by assumption) ?rest2c3
            case hy2c3 => (intro wq hSw; obtain ⟨hS1, hS2⟩ := hSw; go_simp <;> with_reducible rfl)
            simp only [Act.put, List.setIfInBounds_toArray, List.set_cons_zero, List.set_cons_succ]
            refine takeWa 3 92 (v := ?vv3c3) rfl rfl (by kernel_rfl) (by kernel_rfl) (by kernel_rfl) (fun _ _ _ h => h) (by kernel_rfl) ?hy3c3 (by assumption) ?rest3c3
            case hy3c3 => (intro wq hSw; obtain ⟨hS1, hS2⟩ := hSw; go_simp <;> with_reducible rfl)
            simp only [Act.put, List.setIfInBounds_toArray, List.set_cons_zero, List.set_cons_succ]
            refine takeSk 4 93 rfl rfl (by kernel_rfl) (by kernel_rfl) (by kernel_rfl) (fun _ _ _ h => h) (by kernel_rfl) (by assumption) ?_
            simp only [Act.put, List.setIfInBounds_toArray, List.set_cons_zero, List.set_cons_succ]
            refine takeSk 5 94 rfl rfl (by kernel_rfl) (by kernel_rfl) (by kernel_rfl) (fun _ _ _ h => h) (by kernel_rfl) (by assumption) ?_
            simp only [Act.put, List.setIfInBounds_toArray, List.set_cons_zero, List.set_cons_succ]
            refine takeSk 6 95 rfl rfl (by kernel_rfl) (by kernel_rfl) (by kernel_rfl) (fun _ _ _ h => h) (by kernel_rfl) (by assumption) ?_
            simp only [Act.put, List.setIfInBounds_toArray, List.set_cons_zero, List.set_cons_succ]
            refine takeSk 7 96 rfl rfl (by kernel_rfl) (by kernel_rfl) (by kernel_rfl) (fun _ _ _ h => h) (by kernel_rfl) (by assumption) ?_
            simp only [Act.put, List.setIfInBounds_toArray, List.set_cons_zero, List.set_cons_succ]
            refine takeSk 8 97 rfl rfl (by kernel_rfl) (by kernel_rfl) (by kernel_rfl) (fun _ _ _ h => h) (by kernel_rfl) (by assumption) ?_
            simp only [Act.put, List.setIfInBounds_toArray, List.set_cons_zero, List.set_cons_succ]
            refine takeSk 9 98 rfl rfl (by kernel_rfl) (by kernel_rfl) (by kernel_rfl) (fun _ _ _ h => h) (by kernel_rfl) (by assumption) ?_
            simp only [Act.put, List.setIfInBounds_toArray, List.set_cons_zero, List.set_cons_succ]
            refine takeSk 10 99 rfl rfl (by kernel_rfl) (by kernel_rfl) (by kernel_rfl) (fun _ _ _ h => h) (by kernel_rfl) (by assumption) ?_
            simp only [Act.put, List.setIfInBounds_toArray, List.set_cons_zero, List.set_cons_succ]
            refine takeSk 11 100 rfl rfl (by kernel_rfl) (by kernel_rfl) (by kernel_rfl) (fun _ _ _ h => h) (by kernel_rfl) (by assumption) ?_
            simp only [Act.put, List.setIfInBounds_toArray, List.set_cons_zero, List.set_cons_succ]
            refine takeWa 12 101 (v := ?vv12c3) rfl rfl (by kernel_rfl) (by kernel_rfl) (by kernel_rfl) (fun _ _ _ h => h) (by kernel_rfl) ?hy12c3 (by assumption) ?rest12c3
            case hy12c3 => (intro wq hSw; obtain ⟨hS1, hS2⟩ := hSw; go_simp <;> with_reducible rfl)
            simp only [Act.put, List.setIfInBounds_toArray, List.set_cons_zero, List.set_cons_succ]
            refine takeWa 13 102 (v := ?vv13c3) rfl rfl (by kernel_rfl) (by kernel_rfl) (by kernel_rfl) (fun _ _ _ h => h) (by kernel_rfl) ?hy13c3 (by assumption) ?rest13c3
            case hy13c3 => (intro wq hSw; obtain ⟨hS1, hS2⟩ := hSw; go_simp <;> with_reducible rfl)
            simp only [Act.put, List.setIfInBounds_toArray, List.set_cons_zero, List.set_cons_succ]
            refine takeWa 14 103 (v := ?vv14c3) rfl rfl (by kernel_rfl) (by kernel_rfl) (by kernel_rfl) (fun _ _ _ h => h) (by kernel_rfl) ?hy14c3 (by assumption) ?rest14c3
            case hy14c3 => (intro wq hSw; obtain ⟨hS1, hS2⟩ := hSw; go_simp <;> with_reducible rfl)
            simp only [Act.put, List.setIfInBounds_toArray, List.set_cons_zero, List.set_cons_succ]
            refine takeWa 15 104 (v := ?vv15c3) rfl rfl (by kernel_rfl) (by kernel_rfl) (by kernel_rfl) (fun _ _ _ h => h) (by kernel_rfl) ?hy15c3 (by assumption) ?rest15c3
            case hy15c3 => (intro wq hSw; obtain ⟨hS1, hS2⟩ := hSw; go_simp <;> with_reducible rfl)
            simp only [Act.put, List.setIfInBounds_toArray, List.set_cons_zero, List.set_cons_succ]
            refine takeWa 16 105 (v := ?vv16c3) rfl rfl (by kernel_rfl) (by kernel_rfl) (by kernel_rfl) (fun _ _ _ h => h) (by kernel_rfl) ?hy16c3 (by assumption) ?rest16c3
            case hy16c3 => (intro wq hSw; obtain ⟨hS1, hS2⟩ := hSw; go_simp <;> with_reducible rfl)
            simp only [Act.put, List.setIfInBounds_toArray, List.set_cons_zero, List.set_cons_succ]
            refine takeSk 17 106 rfl rfl (by kernel_rfl) (by kernel_rfl) (by kernel_rfl) (fun _ _ _ h => h) (by kernel_rfl) (by assumption) ?_
            simp only [Act.put, List.setIfInBounds_toArray, List.set_cons_zero, List.set_cons_succ]
            refine takeSk 18 107 rfl rfl (by kernel_rfl) (by kernel_rfl) (by kernel_rfl) (fun _ _ _ h => h) (by kernel_rfl) (by assumption) ?_
            simp only [Act.put, List.setIfInBounds_toArray, List.set_cons_zero, List.set_cons_succ]
            refine takeSk 19 108 rfl rfl (by kernel_rfl) (by kernel_rfl) (by kernel_rfl) (fun _ _ _ h => h) (by kernel_rfl) (by assumption) ?_
            simp only [Act.put, List.setIfInBounds_toArray, List.set_cons_zero, List.set_cons_succ]
            refine takeSk 20 109 rfl rfl (by kernel_rfl) (by kernel_rfl) (by kernel_rfl) (fun _ _ _ h => h) (by kernel_rfl) (by assumption) ?_
            simp only [Act.put, List.setIfInBounds_toArray, List.set_cons_zero, List.set_cons_succ]
            refine takeSk 21 110 rfl rfl (by kernel_rfl) (by kernel_rfl) (by kernel_rfl) (fun _ _ _ h => h) (by kernel_rfl) (by assumption) ?_
            simp only [Act.put, List.setIfInBounds_toArray, List.set_cons_zero, List.set_cons_succ]
            refine takeSk 22 111 rfl rfl (by kernel_rfl) (by kernel_rfl) (by kernel_rfl) (fun _ _ _ h => h) (by kernel_rfl) (by assumption) ?_
            simp only [Act.put, List.setIfInBounds_toArray, List.set_cons_zero, List.set_cons_succ]
            refine takeSk 23 112 rfl rfl (by kernel_rfl) (by kernel_rfl) (by kernel_rfl) (fun _ _ _ h => h) (by kernel_rfl) (by assumption) ?_
            simp only [Act.put, List.setIfInBounds_toArray, List.set_cons_zero, List.set_cons_succ]
            refine takeWa 24 113 (v := ?vv24c3) rfl rfl (by kernel_rfl) (by kernel_rfl) (by kernel_rfl) (fun _ _ _ h => h) (by kernel_rfl) ?hy24c3 (by assumption) ?rest24c3
            case hy24c3 => (intro wq hSw; obtain ⟨hS1, hS2⟩ := hSw; go_simp <;> with_reducible rfl)
            simp only [Act.put, List.setIfInBounds_toArray, List.set_cons_zero, List.set_cons_succ]
            refine takeWa 25 114 (v := ?vv25c3) rfl rfl (by kernel_rfl) (by kernel_rfl) (by kernel_rfl) (fun _ _ _ h => h) (by kernel_rfl) ?hy25c3 (by assumption) ?rest25c3
            case hy25c3 => (intro wq hSw; obtain ⟨hS1, hS2⟩ := hSw; go_simp <;> with_reducible rfl)
            simp only [Act.put, List.setIfInBounds_toArray, List.set_cons_zero, List.set_cons_succ]
            refine wpAnyH_done (by kernel_rfl) ?_ _
            clear hHeld0
            have B5 : Hid (Below wr.heap.size wr wr.drew) := Lib.hid (below_drew _)
            generalize hW : wr.drew = w5 at B5 ⊢
            clear hW
            have T5 := Lib.hid (HT.out.still (B4.out.trans (B5.out.mono B4.out.size)))
            have BX := Lib.hid (B4.out.trans (B5.out.mono B4.out.size))
            obtain ⟨D1, d1, w8, D2, d2, w6, r1, r2, b6, c6, f6, T6⟩ := put_pre T5.out (Nat.le_trans HX.out BX.out.size) (by have := HL.out; omega) ⟨s, (key, kd), val⟩
            dsimp only at r2
            have c4 : (w5.alloc (.cells #[] 67)).cell? ⟨b, 4, none⟩ = some (.slice A l.length c) := (T5.out.still ((Below.refl _ w5).alloc (Nat.le_refl _) _)).c4
            have R1 := Lib.hid r1
            have R2 := Lib.hid r2
            have T6 := Lib.hid T6
            have KP : Hid (Keeps (fun g => g = b) w (w6.setCell ⟨b, 4, none⟩ (.slice D2 (l.length + 1) d2))) := Lib.hid ((Keeps.of_below (BX.out.trans (b6.mono BX.out.size)) (Nat.le_refl _) _).set _ _ (.inl rfl))
            clear r1 r2 b6 T5
            go_wp2_with (first
              | (at_builtin; refine wpK_app rfl (.tmp 116) (.tmp 120) 25 rfl _ _ _ rfl rfl R1.out ?_)
              | (at_builtin; refine wpK_app rfl (.tmp 121) (.tmp 127) 25 rfl _ _ _ rfl rfl R2.out ?_)
              | fail)
            go_ret
            exact .inr (.inr ⟨(by have := LT.out; omega), HF.out, rfl, ⟨_, _, T6.out⟩, KP.out⟩)
          | false =>
            by_cases hs : t.ro ≤ (K : Int)
            · have HF : Hid (fullW t (key, kd) s l) := Lib.hid (.inr ⟨by rw [HR.out]; exact has_get.1 hm, by rw [HR.out, HRL.out, HKK.out]; exact hs⟩)
              have y1 := Lib.hid (decide_eq_true hs)
              rw [HM.out, hm, hK]
              clear hm h0 hR0 x5 xl0 xb xc hs hK
              go_wp2_with fail
              have xb := XB.out
              have xc := XC.out
              have xl0 := XL.out
              have y1' := y1.out
              refine wp_region_held_drew (S := fun w' => w'.cell? ⟨b, 1, none⟩ = some (.int .i64 t.wi) ∧ w'.cell? ⟨b, 2, none⟩ = some (.int .i64 t.ro)) (by kernel_rfl) (by exact HSA.out _ (below_drew _)) (fun hHeld0 => ?_)
              refine takeWa 0 89 (v := ?vv0c4) rfl rfl (by kernel_rfl) (by kernel_rfl) (by kernel_rfl) (fun _ _ _ h => h) (by kernel_rfl) ?hy0c4 (by assumption) ?rest0c4
              case hy0c4 => (intro wq hSw; obtain ⟨hS1, hS2⟩ := hSw; go_simp <;> with_reducible rfl)
              simp only [Act.put, List.setIfInBounds_toArray, List.set_cons_zero, List.set_cons_succ]
              refine takeWa 1 90 (v := ?vv1c4) rfl rfl (by kernel_rfl) (by kernel_rfl) (by kernel_rfl) (fun _ _ _ h => h) (by kernel_rfl) ?hy1c4 (by assumption) ?rest1c4
              case hy1c4 => (intro wq hSw; obtain ⟨hS1, hS2⟩ := hSw; go_simp <;> with_reducible rfl)
              simp only [Act.put, List.setIfInBounds_toArray, List.set_cons_zero, List.set_cons_succ]
              refine takeWa 2 91 (v := ?vv2c4) rfl rfl (by kernel_rfl) (by kernel_rfl) (by kernel_rfl) (fun _ _ _ h => h) (by kernel_rfl) ?hy2c4 (by assumption) ?rest2c4
              case hy2c4 => (intro wq hSw; obtain ⟨hS1, hS2⟩ := hSw; go_simp <;> with_reducible rfl)
              simp only [Act.put, List.setIfInBounds_toArray, List.set_cons_zero, List.set_cons_succ]
              refine takeWa 3 92 (v := ?vv3c4) rfl rfl (by kernel_rfl) (by kernel_rfl) (by kernel_rfl) (fun _ _ _ h => h) (by kernel_rfl) ?hy3c4 (by assumption) ?rest3c4
              case hy3c4 => (intro wq hSw; obtain ⟨hS1, hS2⟩ := hSw; go_simp <;> with_reducible rfl)
              simp only [Act.put, List.setIfInBounds_toArray, List.set_cons_zero, List.set_cons_succ]
              refine takeSk 4 93 rfl rfl (by kernel_rfl) (by kernel_rfl) (by kernel_rfl) (fun _ _ _ h => h) (by kernel_rfl) (by assumption) ?_
              simp only [Act.put, List.setIfInBounds_toArray, List.set_cons_zero, List.set_cons_succ]
              refine takeSk 5 94 rfl rfl (by kernel_rfl) (by kernel_rfl) (by kernel_rfl) (fun _ _ _ h => h) (by kernel_rfl) (by assumption) ?_
              simp only [Act.put, List.setIfInBounds_toArray, List.set_cons_zero, List.set_cons_succ]
              refine takeSk 6 95 rfl rfl (by kernel_rfl) (by kernel_rfl) (by kernel_rfl) (fun _ _ _ h => h) (by kernel_rfl) (by assumption) ?_
              simp only [Act.put, List.setIfInBounds_toArray, List.set_cons_zero, List.set_cons_succ]
              refine takeSk 7 96 rfl rfl (by kernel_rfl) (by kernel_rfl) (by kernel_rfl) (fun _ _ _ h => h) (by kernel_rfl) (by assumption) ?_
              simp only [Act.put, List.setIfInBounds_toArray, List.set_cons_zero, List.set_cons_succ]
              refine takeSk 8 97 rfl rfl (by kernel_rfl) (by kernel_rfl) (by kernel_rfl) (fun _ _ _ h => h) (by kernel_rfl) (by assumption) ?_
              simp only [Act.put, List.setIfInBounds_toArray, List.set_cons_zero, List.set_cons_succ]
              refine takeSk 9 98 rfl rfl (by kernel_rfl) (by kernel_rfl) (by kernel_rfl) (fun _ _ _ h => h) (by kernel_rfl) (by assumption) ?_
              simp only [Act.put, List.setIfInBounds_toArray, List.set_cons_zero, List.set_cons_succ]
              refine takeSk 10 99 rfl rfl (by kernel_rfl) (by kernel_rfl) (by kernel_rfl) (fun _ _ _ h => h) (by kernel_rfl) (by assumption) ?_
              simp only [Act.put, List.setIfInBounds_toArray, List.set_cons_zero, List.set_cons_succ]
              refine takeSk 11 100 rfl rfl (by kernel_rfl) (by kernel_rfl) (by kernel_rfl) (fun _ _ _ h => h) (by kernel_rfl) (by assumption) ?_
              simp only [Act.put, List.setIfInBounds_toArray, List.set_cons_zero, List.set_cons_succ]
              refine takeWa 12 101 (v := ?vv12c4) rfl rfl (by kernel_rfl) (by kernel_rfl) (by kernel_rfl) (fun _ _ _ h => h) (by kernel_rfl) ?hy12c4 (by assumption) ?rest12c4
              case hy12c4 => (intro wq hSw; obtain ⟨hS1, hS2⟩ := hSw; go_simp <;> with_reducible rfl)
              simp only [Act.put, List.setIfInBounds_toArray, List.set_cons_zero, List.set_cons_succ]
              refine takeWa 13 102 (v := ?vv13c4) rfl rfl (by kernel_rfl) (by kernel_rfl) (by kernel_rfl) (fun _ _ _ h => h) (by kernel_rfl) ?hy13c4 (by assumption) ?rest13c4
              case hy13c4 => (intro wq hSw; obtain ⟨hS1, hS2⟩ := hSw; go_simp <;> with_reducible rfl)
              simp only [Act.put, List.setIfInBounds_toArray, List.set_cons_zero, List.set_cons_succ]
              refine takeWa 14 103 (v := ?vv14c4) rfl rfl (by kernel_rfl) (by kernel_rfl) (by kernel_rfl) (fun _ _ _ h => h) (by kernel_rfl) ?hy14c4 (by assumption) ?rest14c4
              case hy14c4 => (intro wq hSw; obtain ⟨hS1, hS2⟩ := hSw; go_simp <;> with_reducible rfl)
              simp only [Act.put, List.setIfInBounds_toArray, List.set_cons_zero, List.set_cons_succ]
              refine takeWa 15 104 (v := ?vv15c4) rfl rfl (by kernel_rfl) (by kernel_rfl) (by kernel_rfl) (fun _ _ _ h => h) (by kernel_rfl) ?hy15c4 (by assumption) ?rest15c4
              case hy15c4 => (intro wq hSw; obtain ⟨hS1, hS2⟩ := hSw; go_simp <;> with_reducible rfl)
              simp only [Act.put, List.setIfInBounds_toArray, List.set_cons_zero, List.set_cons_succ]
              refine takeWa 16 105 (v := ?vv16c4) rfl rfl (by kernel_rfl) (by kernel_rfl) (by kernel_rfl) (fun _ _ _ h => h) (by kernel_rfl) ?hy16c4 (by assumption) ?rest16c4
              case hy16c4 => (intro wq hSw; obtain ⟨hS1, hS2⟩ := hSw; go_simp <;> with_reducible rfl)
              simp only [Act.put, List.setIfInBounds_toArray, List.set_cons_zero, List.set_cons_succ]
              refine takeWa 17 106 (v := ?vv17c4) rfl rfl (by kernel_rfl) (by kernel_rfl) (by kernel_rfl) (fun _ _ _ h => h) (by kernel_rfl) ?hy17c4 (by assumption) ?rest17c4
              case hy17c4 => (intro wq hSw; obtain ⟨hS1, hS2⟩ := hSw; go_simp <;> with_reducible rfl)
              simp only [Act.put, List.setIfInBounds_toArray, List.set_cons_zero, List.set_cons_succ]
              refine takeWa 18 107 (v := ?vv18c4) rfl rfl (by kernel_rfl) (by kernel_rfl) (by kernel_rfl) (fun _ _ _ h => h) (by kernel_rfl) ?hy18c4 (by assumption) ?rest18c4
              case hy18c4 => (intro wq hSw; obtain ⟨hS1, hS2⟩ := hSw; go_simp <;> with_reducible rfl)
              simp only [Act.put, List.setIfInBounds_toArray, List.set_cons_zero, List.set_cons_succ]
              refine takeWa 19 108 (v := ?vv19c4) rfl rfl (by kernel_rfl) (by kernel_rfl) (by kernel_rfl) (fun _ _ _ h => h) (by kernel_rfl) ?hy19c4 (by assumption) ?rest19c4
              case hy19c4 => (intro wq hSw; obtain ⟨hS1, hS2⟩ := hSw; go_simp <;> with_reducible rfl)
              simp only [Act.put, List.setIfInBounds_toArray, List.set_cons_zero, List.set_cons_succ]
              refine takeWa 20 109 (v := ?vv20c4) rfl rfl (by kernel_rfl) (by kernel_rfl) (by kernel_rfl) (fun _ _ _ h => h) (by kernel_rfl) ?hy20c4 (by assumption) ?rest20c4
              case hy20c4 => (intro wq hSw; obtain ⟨hS1, hS2⟩ := hSw; go_simp <;> with_reducible rfl)
              simp only [Act.put, List.setIfInBounds_toArray, List.set_cons_zero, List.set_cons_succ]
              refine takeWa 21 110 (v := ?vv21c4) rfl rfl (by kernel_rfl) (by kernel_rfl) (by kernel_rfl) (fun _ _ _ h => h) (by kernel_rfl) ?hy21c4 (by assumption) ?rest21c4
              case hy21c4 => (intro wq hSw; obtain ⟨hS1, hS2⟩ := hSw; go_simp <;> with_reducible rfl)
              simp only [Act.put, List.setIfInBounds_toArray, List.set_cons_zero, List.set_cons_succ]
              refine takeWa 22 111 (v := ?vv22c4) rfl rfl (by kernel_rfl) (by kernel_rfl) (by kernel_rfl) (fun _ _ _ h => h) (by kernel_rfl) ?hy22c4 (by assumption) ?rest22c4
              case hy22c4 => (intro wq hSw; obtain ⟨hS1, hS2⟩ := hSw; go_simp <;> with_reducible rfl)
              simp only [Act.put, List.setIfInBounds_toArray, List.set_cons_zero, List.set_cons_succ]
              refine takeWa 23 112 (v := ?vv23c4) rfl rfl (by kernel_rfl) (by kernel_rfl) (by kernel_rfl) (fun _ _ _ h => h) (by kernel_rfl) ?hy23c4 (by assumption) ?rest23c4
              case hy23c4 => (intro wq hSw; obtain ⟨hS1, hS2⟩ := hSw; go_simp <;> with_reducible rfl)
              simp only [Act.put, List.setIfInBounds_toArray, List.set_cons_zero, List.set_cons_succ]
              refine takeWa 24 113 (v := ?vv24c4) rfl rfl (by kernel_rfl) (by kernel_rfl) (by kernel_rfl) (fun _ _ _ h => h) (by kernel_rfl) ?hy24c4 (by assumption) ?rest24c4
              case hy24c4 => (intro wq hSw; obtain ⟨hS1, hS2⟩ := hSw; go_simp <;> with_reducible rfl)
              simp only [Act.put, List.setIfInBounds_toArray, List.set_cons_zero, List.set_cons_succ]
              refine takeWa 25 114 (v := ?vv25c4) rfl rfl (by kernel_rfl) (by kernel_rfl) (by kernel_rfl) (fun _ _ _ h => h) (by kernel_rfl) ?hy25c4 (by assumption) ?rest25c4
              case hy25c4 => (intro wq hSw; obtain ⟨hS1, hS2⟩ := hSw; go_simp <;> with_reducible rfl)
              simp only [Act.put, List.setIfInBounds_toArray, List.set_cons_zero, List.set_cons_succ]
              refine wpAnyH_done (by kernel_rfl) ?_ _
              clear hHeld0
              have B5 : Hid (Below wr.heap.size wr wr.drew) := Lib.hid (below_drew _)
              have hs' := of_decide_eq_true y1.out
              generalize hW : wr.drew = w5 at B5 ⊢
              clear hW
              go_wp2_with fail
              go_ret
              exact .inr (.inl ⟨(by have := LT.out; omega), HF.out, HT.out.kp rfl (B4.out.trans (B5.out.mono B4.out.size))⟩)
            · have HF : Hid (¬ fullW t (key, kd) s l) := Lib.hid (fun e => by rcases e with ⟨e, _⟩ | ⟨_, e⟩; exact hR0 (by rw [← HR.out]; exact e); rw [HR.out, HRL.out, HKK.out] at e; exact hs e)
              have y1 := Lib.hid (decide_eq_false hs)
              rw [HM.out, hm, hK]
              clear hm h0 hR0 x5 xl0 xb xc hs hK
              go_wp2_with fail
              have xb := XB.out
              have xc := XC.out
              have xl0 := XL.out
              have y1' := y1.out
              refine wp_region_held_drew (S := fun w' => w'.cell? ⟨b, 1, none⟩ = some (.int .i64 t.wi) ∧ w'.cell? ⟨b, 2, none⟩ = some (.int .i64 t.ro)) (by kernel_rfl) (by exact HSA.out _ (below_drew _)) (fun hHeld0 => ?_)
              refine takeWa 0 89 (v := ?vv0c5) rfl rfl (by kernel_rfl) (by kernel_rfl) (by kernel_rfl) (fun _ _ _ h => h) (by kernel_rfl) ?hy0c5 (by assumption) ?rest0c5
              case hy0c5 => (intro wq hSw; obtain ⟨hS1, hS2⟩ := hSw; go_simp <;> with_reducible rfl)
              simp only [Act.put, List.setIfInBounds_toArray, List.set_cons_zero, List.set_cons_succ]
              refine takeWa 1 90 (v := ?vv1c5) rfl rfl (by kernel_rfl) (by kernel_rfl) (by kernel_rfl) (fun _ _ _ h => h) (by kernel_rfl) ?hy1c5 (by assumption) ?rest1c5
              case hy1c5 => (intro wq hSw; obtain ⟨hS1, hS2⟩ := hSw; go_simp <;> with_reducible rfl)
              simp only [Act.put, List.setIfInBounds_toArray, List.set_cons_zero, List.set_cons_succ]
              refine takeWa 2 91 (v := ?vv2c5) rfl rfl (by kernel_rfl) (by kernel_rfl) (by kernel_rfl) (fun _ _ _ h => h) (by kernel_rfl) ?hy2c5 (by assumption) ?rest2c5
              case hy2c5 => (intro wq hSw; obtain ⟨hS1, hS2⟩ := hSw; go_simp <;> with_reducible rfl)
              simp only [Act.put, List.setIfInBounds_toArray, List.set_cons_zero, List.set_cons_succ]
              refine takeWa 3 92 (v := ?vv3c5) rfl rfl (by kernel_rfl) (by kernel_rfl) (by kernel_rfl) (fun _ _ _ h => h) (by kernel_rfl) ?hy3c5 (by assumption) ?rest3c5
              case hy3c5 => (intro wq hSw; obtain ⟨hS1, hS2⟩ := hSw; go_simp <;> with_reducible rfl)
              simp only [Act.put, List.setIfInBounds_toArray, List.set_cons_zero, List.set_cons_succ]
              refine takeSk 4 93 rfl rfl (by kernel_rfl) (by kernel_rfl) (by kernel_rfl) (fun _ _ _ h => h) (by kernel_rfl) (by assumption) ?_
              simp only [Act.put, List.setIfInBounds_toArray, List.set_cons_zero, List.set_cons_succ]
              refine takeSk 5 94 rfl rfl (by kernel_rfl) (by kernel_rfl) (by kernel_rfl) (fun _ _ _ h => h) (by kernel_rfl) (by assumption) ?_
              simp only [Act.put, List.setIfInBounds_toArray, List.set_cons_zero, List.set_cons_succ]
              refine takeSk 6 95 rfl rfl (by kernel_rfl) (by kernel_rfl) (by kernel_rfl) (fun _ _ _ h => h) (by kernel_rfl) (by assumption) ?_
              simp only [Act.put, List.setIfInBounds_toArray, List.set_cons_zero, List.set_cons_succ]
              refine takeSk 7 96 rfl rfl (by kernel_rfl) (by kernel_rfl) (by kernel_rfl) (fun _ _ _ h => h) (by kernel_rfl) (by assumption) ?_
              simp only [Act.put, List.setIfInBounds_toArray, List.set_cons_zero, List.set_cons_succ]
              refine takeSk 8 97 rfl rfl (by kernel_rfl) (by kernel_rfl) (by kernel_rfl) (fun _ _ _ h => h) (by kernel_rfl) (by assumption) ?_
              simp only [Act.put, List.setIfInBounds_toArray, List.set_cons_zero, List.set_cons_succ]
              refine takeSk 9 98 rfl rfl (by kernel_rfl) (by kernel_rfl) (by kernel_rfl) (fun _ _ _ h => h) (by kernel_rfl) (by assumption) ?_
              simp only [Act.put, List.setIfInBounds_toArray, List.set_cons_zero, List.set_cons_succ]
              refine takeSk 10 99 rfl rfl (by kernel_rfl) (by kernel_rfl) (by kernel_rfl) (fun _ _ _ h => h) (by kernel_rfl) (by assumption) ?_
              simp only [Act.put, List.setIfInBounds_toArray, List.set_cons_zero, List.set_cons_succ]
              refine takeSk 11 100 rfl rfl (by kernel_rfl) (by kernel_rfl) (by kernel_rfl) (fun _ _ _ h => h) (by kernel_rfl) (by assumption) ?_
              simp only [Act.put, List.setIfInBounds_toArray, List.set_cons_zero, List.set_cons_succ]
              refine takeWa 12 101 (v := ?vv12c5) rfl rfl (by kernel_rfl) (by kernel_rfl) (by kernel_rfl) (fun _ _ _ h => h) (by kernel_rfl) ?hy12c5 (by assumption) ?rest12c5
              case hy12c5 => (intro wq hSw; obtain ⟨hS1, hS2⟩ := hSw; go_simp <;> with_reducible rfl)
              simp only [Act.put, List.setIfInBounds_toArray, List.set_cons_zero, List.set_cons_succ]
              refine takeWa 13 102 (v := ?vv13c5) rfl rfl (by kernel_rfl) (by kernel_rfl) (by kernel_rfl) (fun _ _ _ h => h) (by kernel_rfl) ?hy13c5 (by assumption) ?rest13c5
              case hy13c5 => (intro wq hSw; obtain ⟨hS1, hS2⟩ := hSw; go_simp <;> with_reducible rfl)
              simp only [Act.put, List.setIfInBounds_toArray, List.set_cons_zero, List.set_cons_succ]
              refine takeWa 14 103 (v := ?vv14c5) rfl rfl (by kernel_rfl) (by kernel_rfl) (by kernel_rfl) (fun _ _ _ h => h) (by kernel_rfl) ?hy14c5 (by assumption) ?rest14c5
              case hy14c5 => (intro wq hSw; obtain ⟨hS1, hS2⟩ := hSw; go_simp <;> with_reducible rfl)
              simp only [Act.put, List.setIfInBounds_toArray, List.set_cons_zero, List.set_cons_succ]
              refine takeWa 15 104 (v := ?vv15c5) rfl rfl (by kernel_rfl) (by kernel_rfl) (by kernel_rfl) (fun _ _ _ h => h) (by kernel_rfl) ?hy15c5 (by assumption) ?rest15c5
              case hy15c5 => (intro wq hSw; obtain ⟨hS1, hS2⟩ := hSw; go_simp <;> with_reducible rfl)
              simp only [Act.put, List.setIfInBounds_toArray, List.set_cons_zero, List.set_cons_succ]
              refine takeWa 16 105 (v := ?vv16c5) rfl rfl (by kernel_rfl) (by kernel_rfl) (by kernel_rfl) (fun _ _ _ h => h) (by kernel_rfl) ?hy16c5 (by assumption) ?rest16c5
              case hy16c5 => (intro wq hSw; obtain ⟨hS1, hS2⟩ := hSw; go_simp <;> with_reducible rfl)
              simp only [Act.put, List.setIfInBounds_toArray, List.set_cons_zero, List.set_cons_succ]
              refine takeWa 17 106 (v := ?vv17c5) rfl rfl (by kernel_rfl) (by kernel_rfl) (by kernel_rfl) (fun _ _ _ h => h) (by kernel_rfl) ?hy17c5 (by assumption) ?rest17c5
              case hy17c5 => (intro wq hSw; obtain ⟨hS1, hS2⟩ := hSw; go_simp <;> with_reducible rfl)
              simp only [Act.put, List.setIfInBounds_toArray, List.set_cons_zero, List.set_cons_succ]
              refine takeWa 18 107 (v := ?vv18c5) rfl rfl (by kernel_rfl) (by kernel_rfl) (by kernel_rfl) (fun _ _ _ h => h) (by kernel_rfl) ?hy18c5 (by assumption) ?rest18c5
              case hy18c5 => (intro wq hSw; obtain ⟨hS1, hS2⟩ := hSw; go_simp <;> with_reducible rfl)
              simp only [Act.put, List.setIfInBounds_toArray, List.set_cons_zero, List.set_cons_succ]
              refine takeWa 19 108 (v := ?vv19c5) rfl rfl (by kernel_rfl) (by kernel_rfl) (by kernel_rfl) (fun _ _ _ h => h) (by kernel_rfl) ?hy19c5 (by assumption) ?rest19c5
              case hy19c5 => (intro wq hSw; obtain ⟨hS1, hS2⟩ := hSw; go_simp <;> with_reducible rfl)
              simp only [Act.put, List.setIfInBounds_toArray, List.set_cons_zero, List.set_cons_succ]
              refine takeWa 20 109 (v := ?vv20c5) rfl rfl (by kernel_rfl) (by kernel_rfl) (by kernel_rfl) (fun _ _ _ h => h) (by kernel_rfl) ?hy20c5 (by assumption) ?rest20c5
              case hy20c5 => (intro wq hSw; obtain ⟨hS1, hS2⟩ := hSw; go_simp <;> with_reducible rfl)
              simp only [Act.put, List.setIfInBounds_toArray, List.set_cons_zero, List.set_cons_succ]
              refine takeWa 21 110 (v := ?vv21c5) rfl rfl (by kernel_rfl) (by kernel_rfl) (by kernel_rfl) (fun _ _ _ h => h) (by kernel_rfl) ?hy21c5 (by assumption) ?rest21c5
              case hy21c5 => (intro wq hSw; obtain ⟨hS1, hS2⟩ := hSw; go_simp <;> with_reducible rfl)
              simp only [Act.put, List.setIfInBounds_toArray, List.set_cons_zero, List.set_cons_succ]
              refine takeWa 22 111 (v := ?vv22c5) rfl rfl (by kernel_rfl) (by kernel_rfl) (by kernel_rfl) (fun _ _ _ h => h) (by kernel_rfl) ?hy22c5 (by assumption) ?rest22c5
              case hy22c5 => (intro wq hSw; obtain ⟨hS1, hS2⟩ := hSw; go_simp <;> with_reducible rfl)
              simp only [Act.put, List.setIfInBounds_toArray, List.set_cons_zero, List.set_cons_succ]
              refine takeWa 23 112 (v := ?vv23c5) rfl rfl (by kernel_rfl) (by kernel_rfl) (by kernel_rfl) (fun _ _ _ h => h) (by kernel_rfl) ?hy23c5 (by assumption) ?rest23c5
              case hy23c5 => (intro wq hSw; obtain ⟨hS1, hS2⟩ := hSw; go_simp <;> with_reducible rfl)
              simp only [Act.put, List.setIfInBounds_toArray, List.set_cons_zero, List.set_cons_succ]
              refine takeWa 24 113 (v := ?vv24c5) rfl rfl (by kernel_rfl) (by kernel_rfl) (by kernel_rfl) (fun _ _ _ h => h) (by kernel_rfl) ?hy24c5 (by assumption) ?rest24c5
              case hy24c5 => (intro wq hSw; obtain ⟨hS1, hS2⟩ := hSw; go_simp <;> with_reducible rfl)
              simp only [Act.put, List.setIfInBounds_toArray, List.set_cons_zero, List.set_cons_succ]
              refine takeWa 25 114 (v := ?vv25c5) rfl rfl (by kernel_rfl) (by kernel_rfl) (by kernel_rfl) (fun _ _ _ h => h) (by kernel_rfl) ?hy25c5 (by assumption) ?rest25c5
              case hy25c5 => (intro wq hSw; obtain ⟨hS1, hS2⟩ := hSw; go_simp <;> with_reducible rfl)
              simp only [Act.put, List.setIfInBounds_toArray, List.set_cons_zero, List.set_cons_succ]
              refine wpAnyH_done (by kernel_rfl) ?_ _
              clear hHeld0
              have B5 : Hid (Below wr.heap.size wr wr.drew) := Lib.hid (below_drew _)
              have hs' := of_decide_eq_false y1.out
              generalize hW : wr.drew = w5 at B5 ⊢
              clear hW
              have T5 := Lib.hid (HT.out.still (B4.out.trans (B5.out.mono B4.out.size)))
              have BX := Lib.hid (B4.out.trans (B5.out.mono B4.out.size))
              obtain ⟨D1, d1, w8, D2, d2, w6, r1, r2, b6, c6, f6, T6⟩ := put_pre T5.out (Nat.le_trans HX.out BX.out.size) (by have := HL.out; omega) ⟨s, (key, kd), val⟩
              dsimp only at r2
              have c4 : (w5.alloc (.cells #[] 67)).cell? ⟨b, 4, none⟩ = some (.slice A l.length c) := (T5.out.still ((Below.refl _ w5).alloc (Nat.le_refl _) _)).c4
              have R1 := Lib.hid r1
              have R2 := Lib.hid r2
              have T6 := Lib.hid T6
              have KP : Hid (Keeps (fun g => g = b) w (w6.setCell ⟨b, 4, none⟩ (.slice D2 (l.length + 1) d2))) := Lib.hid ((Keeps.of_below (BX.out.trans (b6.mono BX.out.size)) (Nat.le_refl _) _).set _ _ (.inl rfl))
              clear r1 r2 b6 T5
              go_wp2_with (first
                | (at_builtin; refine wpK_app rfl (.tmp 116) (.tmp 120) 25 rfl _ _ _ rfl rfl R1.out ?_)
                | (at_builtin; refine wpK_app rfl (.tmp 121) (.tmp 127) 25 rfl _ _ _ rfl rfl R2.out ?_)
                | fail)
              go_ret
              exact .inr (.inr ⟨(by have := LT.out; omega), HF.out, rfl, ⟨_, _, T6.out⟩, KP.out⟩)
end Go.Proofs.YtedhciolnekpaaaGreatDoor
