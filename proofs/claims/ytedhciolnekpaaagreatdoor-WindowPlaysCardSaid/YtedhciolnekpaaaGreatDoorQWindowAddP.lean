/-
  Layer 20 (window), the program's Add.
-/
import Derived.Test.YtedhciolnekpaaaGreatDoorQWindowMay
import Derived.Test.YtedhciolnekpaaaGreatDoorQTallyAdd
import Derived.Deep.RegionHeldLaw
namespace Go.Proofs.YtedhciolnekpaaaGreatDoor
open Go.ChangeShapes Go.WideShapes Go.ChangeAt Go.RowKit Go.Deep
set_option linter.unusedVariables false

/-- What a call makes of the table. -/
def GotP (N : Nat) (w : World) (a bm : Nat) (t : Tb) (l : List PtW) (w' : World) : Prop := ∃ blk, Tq N w' a bm t l blk ∧ Kq N w w'
theorem Tq.got {N : Nat} {w w' : World} {a bm : Nat} {t : Tb} {l : List PtW} {blk : Int → Nat} (h : Tq N w a bm t l blk) (b : Below w.heap.size w w') : GotP N w a bm t l w' := ⟨blk, h.below b, Kq.below b⟩
theorem wpList_store {P : Program} {w w' : World} {ops : Array Oper} {rest : List Oper} {o : Oper} {a : Act} {Q : Exit → Act → World → Prop} (hg : o.guard = none) (m x v : Operand) (t : TypeId) (hop : o.op = Op.mapUpdate t m x v)
    (vm vx vv : Value) (hm : a.eval m = vm) (hx : a.eval x = vx) (hv : a.eval v = vv) (hrun : (Instr.mapUpdate t vm vx vv).run P w = .ok () w') (h : wpList P ops Q rest (a.put o.dst undef) w') : wpList P ops Q (o :: rest) a w := by
  refine wpList_plain hg fun K' hK' => ?_
  unfold Oper.wp
  simp [execOp, hop, hm, hx, hv, hrun, Result.andThen]
  exact hK' _ _ h
/-- A value has come to a window that is open. -/
theorem Tq.come {N : Nat} {w w' : World} {a bm : Nat} {t : Tb} {l : List PtW} {blk : Int → Nat} (h : Tq N w a bm t l blk) {p : PtW} (hs : p.start ∈ startsW l) (ht : w.mapTurned w' (blk p.start)) (hi : Inn w' (blk p.start) (putW p.nm p.val (rowsW p.start l))) : Tq N w' a bm t (l ++ [p]) blk ∧ Kq N w w' := by
  have k := mapw_turned ht
  have hm := (h.out.inn _ hs).is
  have e : startsW (l ++ [p]) = startsW l := by rw [starts_next, insW_in (starts_up l) hs]
  exact ⟨⟨by rw [k.block a h.lt (h.ne hm)]; exact h.cel, h.out.come hs k hi, h.na, h.nb, by rw [e]; exact h.ns⟩, Kq.map (h.ns _ hs) hm k⟩
/-- What adding comes to. -/
def AddP (N : Nat) (w : World) (a bm : Nat) (t : Tb) (l : List PtW) (ok : Bool) (n : Nm) (kd time val mark : Int) (e : Ending) (w' : World) : Prop :=
  (¬ AskT ok kd time ∧ e = .returned (errW 1) ∧ GotP N w a bm t l w') ∨
  (AskT ok kd time ∧ startOf t.wd time + t.wd ≤ mark ∧ e = .returned (errW 8) ∧ GotP N w a bm t l w') ∨
  (AskT ok kd time ∧ ¬ startOf t.wd time + t.wd ≤ mark ∧ fullW t n (startOf t.wd time) l ∧ e = .returned (errW 6) ∧ GotP N w a bm t l w') ∨
  (AskT ok kd time ∧ ¬ startOf t.wd time + t.wd ≤ mark ∧ ¬ fullW t n (startOf t.wd time) l ∧ e = .returned .nilIface ∧ GotP N w a bm t (l ++ [⟨startOf t.wd time, n, val⟩]) w')
section
variable {N : Nat} {w : World} {a bm : Nat} {t : Tb} {l : List PtW} {blk : Int → Nat} {key : ByteArray} {kd time val mark : Int}
set_option maxHeartbeats 1000000 in
set_option maxRecDepth 100000 in
theorem add_bad20 (h : Tq N w a bm t l blk) (hL : Laid w) (hs : key.size ≤ 9223372036854775807) (hn : ¬ AskT (keyOk key) kd time) :
    Calls Tryz.prog 15 #[.pointer (some ⟨a, 0, none⟩), .int .i64 mark, .string key, .int .i64 kd, .int .i64 val, .int .i64 time] w (AddP N w a bm t l (keyOk key) (key, kd) kd time val mark) := by
  have CM := Lib.hid (may_no w key kd time hL hs hn)
  unfold MayP at CM
  have HT := Lib.hid h
  have HN := Lib.hid hn
  clear h hL hs hn
  go_enter Tryz.func15, Tryz.ntmps15
  go_wp2_with fail
  refine CM.out.mono ?_
  rintro e w1 ⟨rfl, b1⟩
  have B1 := Lib.hid b1
  clear b1 CM
  go_wp2_with fail
  go_ret
  exact .inl ⟨HN.out, rfl, HT.out.got B1.out⟩
/-- What is known ahead of where the row comes from. -/
theorem start_bd {wd : Int} (h1 : 1 ≤ wd) (h0 : 0 ≤ time) : time - time.tmod wd = startOf wd time := by
  unfold startOf
  rw [Int.tmod_eq_emod_of_nonneg h0]
set_option maxHeartbeats 1000000 in
set_option maxRecDepth 100000 in
theorem add_late20 (h : Tq N w a bm t l blk) (hL : Laid w) (hg : GoodU t) (ha : AskT (keyOk key) kd time) (hm : startOf t.wd time + t.wd ≤ mark) :
    Calls Tryz.prog 15 #[.pointer (some ⟨a, 0, none⟩), .int .i64 mark, .string key, .int .i64 kd, .int .i64 val, .int .i64 time] w (AddP N w a bm t l (keyOk key) (key, kd) kd time val mark) := by
  have CM := Lib.hid (may_yes w key kd time hL ha)
  unfold MayP at CM
  obtain ⟨s0, s1, s2, _⟩ := startOf_bd (width := t.wd) (time := time) hg.w1 ha.t0
  have hw1 := hg.w1
  have hw2 := hg.w2
  have ht1 := ha.t1
  have ht0 := ha.t0
  have x0 : ¬ t.wd = 0 := by omega
  have HS := Lib.hid (start_bd (time := time) hw1 ht0)
  have CI := Lib.hid (fun (wx : World) (hx : Below w.heap.size w wx) => isdue_walk wx a t.wd (startOf t.wd time) mark (h.below hx).c0 ⟨by omega, by omega⟩)
  have CC := Lib.hid (fun (wx : World) (hx : Below w.heap.size w wx) => (h.below hx).c0)
  rw [decide_eq_true hm] at CI
  have HT := Lib.hid h
  have HA := Lib.hid ha
  have HM := Lib.hid hm
  have z1 : IntKind.i64.wrap (time - time.tmod t.wd) = startOf t.wd time := by rw [HS.out, IntKind.wrap_i64]; omega
  clear h hL hg ha hm s0 s1 s2 hw1 hw2 ht1 ht0
  go_enter Tryz.func15, Tryz.ntmps15
  go_wp2_with fail
  refine CM.out.mono ?_
  rintro e w1 ⟨rfl, b1⟩
  have B1 := Lib.hid b1
  have c0 := CC.out w1 b1
  have CI1 := Lib.hid (CI.out w1 b1)
  clear b1 CM CI CC
  go_wp2_with fail
  refine CI1.out.mono ?_
  rintro e w2 ⟨rfl, rfl⟩
  go_wp2_with fail
  go_ret
  exact .inr (.inl ⟨HA.out, HM.out, rfl, HT.out.got B1.out⟩)
theorem key_ok {key : ByteArray} {kd time : Int} (ha : AskT (keyOk key) kd time) : NmOk (key, kd) := ⟨by have := key_size ha.o; show key.size ≤ 1000000; omega, by have := ha.k1; show -9223372036854775808 ≤ kd; omega, by have := ha.k3; show kd ≤ 9223372036854775807; omega⟩
set_option maxHeartbeats 2000000 in
set_option maxRecDepth 100000 in
theorem add_old20 (h : Tq N w a bm t l blk) (hL : Laid w) (hg : GoodU t) (ha : AskT (keyOk key) kd time) (hm : ¬ startOf t.wd time + t.wd ≤ mark) (hv : In64 val) (hl : l.length ≤ 100) (hp : ∀ p ∈ l, PtOk p) (hs : startOf t.wd time ∈ startsW l) {r : Rw} (hr : getW (key, kd) (rowsW (startOf t.wd time) l) = some r) :
    Calls Tryz.prog 15 #[.pointer (some ⟨a, 0, none⟩), .int .i64 mark, .string key, .int .i64 kd, .int .i64 val, .int .i64 time] w (AddP N w a bm t l (keyOk key) (key, kd) kd time val mark) := by
  have CM := Lib.hid (may_yes w key kd time hL ha)
  unfold MayP at CM
  obtain ⟨s0, s1, s2, _⟩ := startOf_bd (width := t.wd) (time := time) hg.w1 ha.t0
  have hw1 := hg.w1
  have hw2 := hg.w2
  have ht1 := ha.t1
  have ht0 := ha.t0
  have x0 : ¬ t.wd = 0 := by omega
  have z0 := start_bd (time := time) hw1 ht0
  obtain ⟨s, hs'⟩ : ∃ s, startOf t.wd time = s := ⟨_, rfl⟩
  unfold AddP
  rw [hs'] at s0 s1 s2 z0 hs hr hm ⊢
  have CI := Lib.hid (fun (wx : World) (hx : Below w.heap.size w wx) => isdue_walk wx a t.wd s mark (h.below hx).c0 ⟨by omega, by omega⟩)
  have CC := Lib.hid (fun (wx : World) (hx : Below w.heap.size w wx) => (h.below hx))
  rw [decide_eq_false hm] at CI
  have HT := Lib.hid h
  have HA := Lib.hid ha
  have HM := Lib.hid hm
  have HS := Lib.hid hs
  have HR := Lib.hid hr
  have HV := Lib.hid hv
  have HP := Lib.hid hp
  have HL := Lib.hid hl
  have HK := Lib.hid (key_ok ha)
  have HF : Hid (¬ fullW t (key, kd) s l) := Lib.hid (fun hf => by
    rcases hf with ⟨e, _⟩ | ⟨e, _⟩
    · exact rows_none.1 e hs
    · rw [hr] at e; cases e)
  have z1 : IntKind.i64.wrap (time - time.tmod t.wd) = s := by rw [z0, IntKind.wrap_i64]; omega
  clear h hL hg ha hm s0 s1 s2 hw1 hw2 ht1 ht0 hs hr hv hp hl hs' z0
  go_enter Tryz.func15, Tryz.ntmps15
  go_wp2_with fail
  refine CM.out.mono ?_
  rintro e w1 ⟨rfl, b1⟩
  have B1 := Lib.hid b1
  have T1 := CC.out w1 b1
  have c0 := T1.c0
  have CI1 := Lib.hid (CI.out w1 b1)
  have c4 := T1.c4
  have lk1 := T1.out.look_some HS.out
  obtain ⟨B, c, ho, lk2⟩ := (T1.out.inn s HS.out).look_some HK.out HR.out
  unfold nmV rowVal at lk2
  have HO := Lib.hid ho
  have HT1 := Lib.hid T1
  have W1 : Hid (Below w1.heap.size w1 (w1.alloc (rowObj r B c))) := Lib.hid ((Below.refl _ w1).alloc (Nat.le_refl _) _)
  clear b1 CM CI CC ho T1
  go_wp2_with fail
  refine CI1.out.mono ?_
  rintro e w2 ⟨rfl, rfl⟩
  clear CI1
  go_wp2_with fail
  have hn := getW_mem HR.out
  have gd := rows_good s HP.out r hn.1
  have hkz : r.key.size ≤ 1000000 := by have e : r.key = key := congrArg Prod.fst hn.2; rw [e]; exact HK.out.sz
  have HN := Lib.hid hn
  have UF : Hid (∀ n, ∃ U, (w2.alloc (.cells #[.string r.key, .int .i64 r.kind, .int .u64 (r.many : Nat), .int .i64 r.sum, .int .i64 r.least, .int .i64 r.most, .bool r.over, .slice B r.bks.length c] 55)).drewN n = U ∧ Below w2.heap.size w2 U ∧ RowB U w2.heap.size r B c ∧ w2.heap.size < U.heap.size ∧
      Calls Tryz.prog 29 #[rowVal r B c, .int .i64 val] U (Tells18 U (comeR r val))) := Lib.hid (fun n => by
    have BU : Below w2.heap.size w2 ((w2.alloc (rowObj r B c)).drewN n) := W1.out.trans ((below_drewN (w2.alloc (rowObj r B c)) n).mono W1.out.size)
    have ZU : RowB ((w2.alloc (rowObj r B c)).drewN n) w2.heap.size r B c := ⟨(RowB.new w2 r B c).blk⟩
    exact ⟨_, rfl, BU, ZU, ZU.lt, tallyAdd_walk _ r B c (owns_below HO.out BU) gd.ok (by omega) HV.out⟩)
  clear hn gd hkz W1
  go_quiet (fail)
  obtain ⟨U, hU, BU, ZU, SU, CA⟩ := UF.out nq
  rw [hU]
  unfold Tells18 rowVal at CA
  have CA := Lib.hid CA
  have e0 := ZU.c0
  have e1 := ZU.c1
  have e2 := ZU.c2
  have e3 := ZU.c3
  have e4 := ZU.c4
  have e5 := ZU.c5
  have e6 := ZU.c6
  have e7 := ZU.c7
  have HBU := Lib.hid BU
  have HZU := Lib.hid ZU
  have HSU := Lib.hid SU
  clear BU ZU SU UF hU
  go_wp2_with fail
  refine CA.out.mono ?_
  rintro e w3 ⟨B3, c3, rfl, o3, b3⟩
  have Z3 := HZU.out.below b3 (Nat.le_refl _)
  have f3 := Z3.f
  have d0 := Z3.c0
  have d1 := Z3.c1
  have d2 := Z3.c2
  have d3 := Z3.c3
  have d4 := Z3.c4
  have d5 := Z3.c5
  have d6 := Z3.c6
  have d7 := Z3.c7
  have HZ3 := Lib.hid Z3
  have HO3 := Lib.hid o3
  have HB3 := Lib.hid (HBU.out.trans (b3.mono HBU.out.size))
  clear Z3 o3 b3 CA
  have bX : Below w.heap.size w (putRow w3 w2.heap.size (comeR r val) B3 c3) := putRow_below (B1.out.trans (HB3.out.mono B1.out.size)) B1.out.size (comeR r val) B3 c3
  have bX2 : Below w2.heap.size w2 (putRow w3 w2.heap.size (comeR r val) B3 c3) := putRow_below HB3.out (Nat.le_refl _) (comeR r val) B3 c3
  have oX : OwnN (putRow w3 w2.heap.size (comeR r val) B3 c3) 0 B3 c3 (comeR r val).bks := owns_mono (own_put HO3.out HSU.out (comeR r val) B3 c3) (Nat.zero_le _)
  have TX := HT1.out.below bX2
  have hrow : comeR r val = newW (key, kd) val (getW (key, kd) (rowsW s l)) := by rw [HR.out]; rfl
  obtain ⟨w4, r4, i4, t4⟩ := (TX.out.inn s HS.out).store (rows_up s l) (by have := rows_le s l; have := HL.out; omega) HK.out (v := val) hrow oX
  have hkey : (comeR r val).key = key := congrArg Prod.fst HN.out.2
  rw [show nmV (key, kd) = .agg #[.string (comeR r val).key, .int .i64 kd] by rw [hkey]; rfl] at r4
  have TC := TX.come (p := ⟨s, (key, kd), val⟩) HS.out t4 i4
  have R4 := Lib.hid r4
  have HTC : Hid (GotP N w a bm t (l ++ [⟨s, (key, kd), val⟩]) w4) := Lib.hid ⟨blk, TC.1, (Kq.below bX).trans TC.2⟩
  clear bX bX2 oX TX hrow r4 i4 t4 hkey TC
  go_wp2_with (first
    | (at_mapUpdate; refine wpList_store rfl _ _ _ _ rfl _ _ _ rfl rfl rfl R4.out ?_)
    | fail)
  go_ret
  exact .inr (.inr (.inr ⟨HA.out, HM.out, HF.out, rfl, HTC.out⟩))
end
end Go.Proofs.YtedhciolnekpaaaGreatDoor
