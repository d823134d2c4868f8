/-
  Layer 20 (window), the program's Add: a row that begins, in a window that is open, and in one that is opened.
-/
import Derived.Test.YtedhciolnekpaaaGreatDoorQWindowAddP
namespace Go.Proofs.YtedhciolnekpaaaGreatDoor
open Go.ChangeShapes Go.WideShapes Go.ChangeAt Go.RowKit Go.Deep
set_option linter.unusedVariables false

/-- Not more windows, nor rows, than may be. -/
structure CapW (t : Tb) (l : List PtW) : Prop where
  wi : ((startsW l).length : Int) ≤ t.wi
  ro : ∀ s, ((rowsW s l).length : Int) ≤ t.ro
section
variable {N : Nat} {w : World} {a bm : Nat} {t : Tb} {l : List PtW} {blk : Int → Nat} {key : ByteArray} {kd time val mark : Int}
set_option maxHeartbeats 2000000 in
set_option maxRecDepth 100000 in
theorem add_new20 (h : Tq N w a bm t l blk) (hL : Laid w) (hg : GoodU t) (hc : CapW t l) (ha : AskT (keyOk key) kd time) (hm : ¬ startOf t.wd time + t.wd ≤ mark) (hv : In64 val) (hl : l.length ≤ 100) (hs : startOf t.wd time ∈ startsW l) (hr : getW (key, kd) (rowsW (startOf t.wd time) l) = none) :
    Calls Tryz.prog 15 #[.pointer (some ⟨a, 0, none⟩), .int .i64 mark, .string key, .int .i64 kd, .int .i64 val, .int .i64 time] w (AddP N w a bm t l (keyOk key) (key, kd) kd time val mark) := by
  have CM := Lib.hid (may_yes w key kd time hL ha)
  unfold MayP at CM
  obtain ⟨s0, s1, s2, _⟩ := startOf_bd (width := t.wd) (time := time) hg.w1 ha.t0
  have hw1 := hg.w1
  have hw2 := hg.w2
  have ht1 := ha.t1
  have ht0 := ha.t0
  have x0 : ¬ t.wd = 0 := by omega
  have z0 := start_bd (time := time) hw1 ht0
  obtain ⟨s, hs'⟩ : ∃ s, startOf t.wd time = s := ⟨_, rfl⟩
  unfold AddP
  rw [hs'] at s0 s1 s2 z0 hs hr hm ⊢
  have CI := Lib.hid (fun (wx : World) (hx : Below w.heap.size w wx) => isdue_walk wx a t.wd s mark (h.below hx).c0 ⟨by omega, by omega⟩)
  have CC := Lib.hid (fun (wx : World) (hx : Below w.heap.size w wx) => (h.below hx))
  rw [decide_eq_false hm] at CI
  have HT := Lib.hid h
  have HA := Lib.hid ha
  have HM := Lib.hid hm
  have HS := Lib.hid hs
  have HR := Lib.hid hr
  have HV := Lib.hid hv
  have HL := Lib.hid hl
  have HK := Lib.hid (key_ok ha)
  have HCR := Lib.hid (hc.ro s)
  have HF : Hid (¬ ((rowsW s l).length : Int) = t.ro → ¬ fullW t (key, kd) s l) := Lib.hid (fun hx hf => by
    rcases hf with ⟨e, _⟩ | ⟨_, e⟩
    · exact rows_none.1 e hs
    · have := hc.ro s; omega)
  have z1 : IntKind.i64.wrap (time - time.tmod t.wd) = s := by rw [z0, IntKind.wrap_i64]; omega
  clear h hL hg ha hm s0 s1 s2 hw1 hw2 ht1 ht0 hs hr hv hl hs' z0 hc
  go_enter Tryz.func15, Tryz.ntmps15
  go_wp2_with fail
  refine CM.out.mono ?_
  rintro e w1 ⟨rfl, b1⟩
  have B1 := Lib.hid b1
  have T1 := CC.out w1 b1
  have c0 := T1.c0
  have CI1 := Lib.hid (CI.out w1 b1)
  have c4 := T1.c4
  have lk1 := T1.out.look_some HS.out
  have lk2 : (Instr.lookup 64 (.map (some (blk s))) (.agg #[.string key, .int .i64 kd]) true).run Tryz.prog w1 = .ok (.tuple #[.agg #[.string ⟨#[]⟩, .int .i64 0, .int .u64 0, .int .i64 0, .int .i64 0, .int .i64 0, .bool false, .slice none 0 0], .bool false]) w1 := (T1.out.inn s HS.out).look_none HK.out HR.out
  have HT1 := Lib.hid T1
  have W1 : Hid (Below w1.heap.size w1 (w1.alloc (rowObj zeroR none 0))) := Lib.hid ((Below.refl _ w1).alloc (Nat.le_refl _) _)
  clear b1 CM CI CC T1
  go_wp2_with fail
  refine CI1.out.mono ?_
  rintro e w2 ⟨rfl, rfl⟩
  clear CI1
  go_wp2_with fail
  have TU := HT1.out.below W1.out
  have c2u : (w2.alloc (.cells #[.string ⟨#[]⟩, .int .i64 0, .int .u64 0, .int .i64 0, .int .i64 0, .int .i64 0, .bool false, .slice none 0 0] 55)).cell? ⟨a, 2, none⟩ = some (.int .i64 t.ro) := TU.c2
  have ln2 : ∀ n, (Builtin.len_ #[64] 3 #[.map (some (blk s))]).run Tryz.prog ((w2.alloc (.cells #[.string ⟨#[]⟩, .int .i64 0, .int .u64 0, .int .i64 0, .int .i64 0, .int .i64 0, .bool false, .slice none 0 0] 55)).drewN n) = .ok (.int .i64 ((rowsW s l).length : Nat)) ((w2.alloc (.cells #[.string ⟨#[]⟩, .int .i64 0, .int .u64 0, .int .i64 0, .int .i64 0, .int .i64 0, .bool false, .slice none 0 0] 55)).drewN n) := fun n => ((TU.drewN n).out.inn s HS.out).len 3
  by_cases hfull : ((rowsW s l).length : Int) = t.ro
  · have HFF : Hid (fullW t (key, kd) s l) := Lib.hid (.inr ⟨HR.out, by omega⟩)
    have HG : Hid (∀ n, GotP N w a bm t l ((w2.alloc (rowObj zeroR none 0)).drewN n)) := Lib.hid (fun n => HT.out.got (B1.out.trans ((W1.out.trans ((below_drewN (w2.alloc (rowObj zeroR none 0)) n).mono W1.out.size)).mono B1.out.size)))
    clear TU W1
    go_quiet (fail)
    all_goals go_wp2_with fail
    go_ret
    exact .inr (.inr (.inl ⟨HA.out, HM.out, HFF.out, rfl, HG.out _⟩))
  · have UF : Hid (∀ n, ∃ U, (w2.alloc (.cells #[.string ⟨#[]⟩, .int .i64 0, .int .u64 0, .int .i64 0, .int .i64 0, .int .i64 0, .bool false, .slice none 0 0] 55)).drewN n = U ∧ Below w2.heap.size w2 U ∧ RowB U w2.heap.size zeroR none 0 ∧ w2.heap.size < U.heap.size ∧
      Calls Tryz.prog 30 #[.string key, .int .i64 kd, .int .i64 val] U (Tells18 U (beginR key kd val))) := Lib.hid (fun n => by
      have BU : Below w2.heap.size w2 ((w2.alloc (rowObj zeroR none 0)).drewN n) := W1.out.trans ((below_drewN (w2.alloc (rowObj zeroR none 0)) n).mono W1.out.size)
      have ZU : RowB ((w2.alloc (rowObj zeroR none 0)).drewN n) w2.heap.size zeroR none 0 := ⟨(RowB.new w2 zeroR none 0).blk⟩
      exact ⟨_, rfl, BU, ZU, ZU.lt, begin_walk _ key (by have := HK.out.sz; have e : ((key, kd) : Nm).1 = key := rfl; rw [e] at this; omega) kd HV.out⟩)
    clear TU W1
    go_quiet (fail)
    obtain ⟨U, hU, BU, ZU, SU, CA⟩ := UF.out nq
    rw [hU]
    unfold Tells18 rowVal at CA
    have CA := Lib.hid CA
    have HBU := Lib.hid BU
    have HZU := Lib.hid ZU
    have HSU := Lib.hid SU
    clear BU ZU SU UF hU c2u ln2
    go_wp2_with fail
    refine CA.out.mono ?_
    rintro e w3 ⟨B3, c3, rfl, o3, b3⟩
    have Z3 := HZU.out.below b3 (Nat.le_refl _)
    have f3 := Z3.f
    have d0 := Z3.c0
    have d1 := Z3.c1
    have d2 := Z3.c2
    have d3 := Z3.c3
    have d4 := Z3.c4
    have d5 := Z3.c5
    have d6 := Z3.c6
    have d7 := Z3.c7
    have HZ3 := Lib.hid Z3
    have HO3 := Lib.hid o3
    have HB3 := Lib.hid (HBU.out.trans (b3.mono HBU.out.size))
    clear Z3 o3 b3 CA
    have bX : Below w.heap.size w (putRow w3 w2.heap.size (beginR key kd val) B3 c3) := putRow_below (B1.out.trans (HB3.out.mono B1.out.size)) B1.out.size (beginR key kd val) B3 c3
    have bX2 : Below w2.heap.size w2 (putRow w3 w2.heap.size (beginR key kd val) B3 c3) := putRow_below HB3.out (Nat.le_refl _) (beginR key kd val) B3 c3
    have oX : OwnN (putRow w3 w2.heap.size (beginR key kd val) B3 c3) 0 B3 c3 (beginR key kd val).bks := owns_mono (own_put HO3.out HSU.out (beginR key kd val) B3 c3) (Nat.zero_le _)
    have TX := HT1.out.below bX2
    have hrow : beginR key kd val = newW (key, kd) val (getW (key, kd) (rowsW s l)) := by rw [HR.out]; rfl
    obtain ⟨w4, r4, i4, t4⟩ := (TX.out.inn s HS.out).store (rows_up s l) (by have := rows_le s l; have := HL.out; omega) HK.out (v := val) hrow oX
    rw [show nmV (key, kd) = .agg #[.string (beginR key kd val).key, .int .i64 kd] from rfl] at r4
    have TC := TX.come (p := ⟨s, (key, kd), val⟩) HS.out t4 i4
    have R4 := Lib.hid r4
    have HTC : Hid (GotP N w a bm t (l ++ [⟨s, (key, kd), val⟩]) w4) := Lib.hid ⟨blk, TC.1, (Kq.below bX).trans TC.2⟩
    have HFN := Lib.hid (HF.out hfull)
    clear bX bX2 oX TX hrow r4 i4 t4 TC hfull HF
    go_wp2_with (first
      | (at_mapUpdate; refine wpList_store rfl _ _ _ _ rfl _ _ _ rfl rfl rfl R4.out ?_)
      | fail)
    go_ret
    exact .inr (.inr (.inr ⟨HA.out, HM.out, HFN.out, rfl, HTC.out⟩))
end
end Go.Proofs.YtedhciolnekpaaaGreatDoor
