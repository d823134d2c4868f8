/-
  Layer 20 (window), the program's Add: a window is opened; and all ways together.
-/
import Derived.Test.YtedhciolnekpaaaGreatDoorQWindowAddQ
namespace Go.Proofs.YtedhciolnekpaaaGreatDoor
open Go.ChangeShapes Go.WideShapes Go.ChangeAt Go.RowKit Go.Deep
set_option linter.unusedVariables false

theorem turned_is {w w' : World} {b : Nat} (h : w.mapTurned w' b) : ∃ es c, w'.heap[b]? = some (.map es c) := by
  obtain ⟨es, cl, es', cl', hb, rfl⟩ := h
  exact ⟨es', cl', ChangeMaps.heap_setBlock_same hb _⟩
section
variable {N : Nat} {w : World} {a bm : Nat} {t : Tb} {l : List PtW} {blk : Int → Nat} {key : ByteArray} {kd time val mark : Int}
set_option maxHeartbeats 4000000 in
set_option maxRecDepth 100000 in
theorem add_open20 (h : Tq N w a bm t l blk) (hL : Laid w) (hg : GoodU t) (hc : CapW t l) (ha : AskT (keyOk key) kd time) (hm : ¬ startOf t.wd time + t.wd ≤ mark) (hv : In64 val) (hl : l.length ≤ 100) (hs : startOf t.wd time ∉ startsW l) :
    Calls Tryz.prog 15 #[.pointer (some ⟨a, 0, none⟩), .int .i64 mark, .string key, .int .i64 kd, .int .i64 val, .int .i64 time] w (AddP N w a bm t l (keyOk key) (key, kd) kd time val mark) := by
  have hmm := @run_makeMap Tryz.prog
  have CM := Lib.hid (may_yes w key kd time hL ha)
  unfold MayP at CM
  obtain ⟨s0, s1, s2, _⟩ := startOf_bd (width := t.wd) (time := time) hg.w1 ha.t0
  have hw1 := hg.w1
  have hw2 := hg.w2
  have ht1 := ha.t1
  have ht0 := ha.t0
  have x0 : ¬ t.wd = 0 := by omega
  have X1 : Hid (¬ (0 : Int) = t.ro) := Lib.hid (by have := hg.r1; omega)
  have z0 := start_bd (time := time) hw1 ht0
  obtain ⟨s, hs'⟩ : ∃ s, startOf t.wd time = s := ⟨_, rfl⟩
  unfold AddP
  rw [hs'] at s0 s1 s2 z0 hs hm ⊢
  have CI := Lib.hid (fun (wx : World) (hx : Below w.heap.size w wx) => isdue_walk wx a t.wd s mark (h.below hx).c0 ⟨by omega, by omega⟩)
  have CC := Lib.hid (fun (wx : World) (hx : Below w.heap.size w wx) => (h.below hx))
  rw [decide_eq_false hm] at CI
  have H64 : Hid (In64 s) := Lib.hid ⟨by omega, by omega⟩
  have HT := Lib.hid h
  have HA := Lib.hid ha
  have HM := Lib.hid hm
  have HS := Lib.hid hs
  have HV := Lib.hid hv
  have HL := Lib.hid hl
  have HK := Lib.hid (key_ok ha)
  have HC := Lib.hid hc.wi
  have HE : Hid (rowsW s l = []) := Lib.hid (rows_none.2 hs)
  have HF : Hid (¬ ((startsW l).length : Int) = t.wi → ¬ fullW t (key, kd) s l) := Lib.hid (fun hx hf => by
    rcases hf with ⟨_, e⟩ | ⟨_, e⟩
    · have := hc.wi; omega
    · rw [rows_none.2 hs] at e
      have := hg.r1
      simp at e
      omega)
  have z1 : IntKind.i64.wrap (time - time.tmod t.wd) = s := by rw [z0, IntKind.wrap_i64]; omega
  clear h hL hg ha hm s0 s1 s2 hw1 hw2 ht1 ht0 hs hv hl hs' z0 hc
  go_enter Tryz.func15, Tryz.ntmps15
  go_wp2_with fail
  refine CM.out.mono ?_
  rintro e w1 ⟨rfl, b1⟩
  have B1 := Lib.hid b1
  have T1 := CC.out w1 b1
  have c0 := T1.c0
  have CI1 := Lib.hid (CI.out w1 b1)
  have c4 := T1.c4
  have lk1 := T1.out.look_none HS.out H64.out
  have lk2 : (Instr.lookup 64 (.map none) (.agg #[.string key, .int .i64 kd]) true).run Tryz.prog w1 = .ok (.tuple #[.agg #[.string ⟨#[]⟩, .int .i64 0, .int .u64 0, .int .i64 0, .int .i64 0, .int .i64 0, .bool false, .slice none 0 0], .bool false]) w1 := Maps.look_nil true keyedP Tryz.underlying64 (zeroRw w1) (key_p HK.out)
  have HT1 := Lib.hid T1
  have W1 : Hid (Below w1.heap.size w1 (w1.alloc (rowObj zeroR none 0))) := Lib.hid ((Below.refl _ w1).alloc (Nat.le_refl _) _)
  clear b1 CM CI CC T1
  go_wp2_with fail
  refine CI1.out.mono ?_
  rintro e w2 ⟨rfl, rfl⟩
  clear CI1
  go_wp2_with fail
  have TU := HT1.out.below W1.out
  have c1u : (w2.alloc (.cells #[.string ⟨#[]⟩, .int .i64 0, .int .u64 0, .int .i64 0, .int .i64 0, .int .i64 0, .bool false, .slice none 0 0] 55)).cell? ⟨a, 1, none⟩ = some (.int .i64 t.wi) := TU.c1
  have c2u : (w2.alloc (.cells #[.string ⟨#[]⟩, .int .i64 0, .int .u64 0, .int .i64 0, .int .i64 0, .int .i64 0, .bool false, .slice none 0 0] 55)).cell? ⟨a, 2, none⟩ = some (.int .i64 t.ro) := TU.c2
  have c4u : (w2.alloc (.cells #[.string ⟨#[]⟩, .int .i64 0, .int .u64 0, .int .i64 0, .int .i64 0, .int .i64 0, .bool false, .slice none 0 0] 55)).cell? ⟨a, 4, none⟩ = some (.map (some bm)) := TU.c4
  have ln1 : ∀ n, (Builtin.len_ #[57] 3 #[.map (some bm)]).run Tryz.prog ((w2.alloc (.cells #[.string ⟨#[]⟩, .int .i64 0, .int .u64 0, .int .i64 0, .int .i64 0, .int .i64 0, .bool false, .slice none 0 0] 55)).drewN n) = .ok (.int .i64 ((startsW l).length : Nat)) ((w2.alloc (.cells #[.string ⟨#[]⟩, .int .i64 0, .int .u64 0, .int .i64 0, .int .i64 0, .int .i64 0, .bool false, .slice none 0 0] 55)).drewN n) := fun n => (TU.drewN n).out.len 3
  have ln2 : ∀ w, (Builtin.len_ #[64] 3 #[.map none]).run Tryz.prog w = .ok (.int .i64 0) w := fun w => Maps.len_nil Tryz.underlying64 3
  by_cases hfull : ((startsW l).length : Int) = t.wi
  · have HFF : Hid (fullW t (key, kd) s l) := Lib.hid (.inl ⟨HE.out, by omega⟩)
    have HG : Hid (∀ n, GotP N w a bm t l ((w2.alloc (rowObj zeroR none 0)).drewN n)) := Lib.hid (fun n => HT.out.got (B1.out.trans ((W1.out.trans ((below_drewN (w2.alloc (rowObj zeroR none 0)) n).mono W1.out.size)).mono B1.out.size)))
    clear TU W1
    go_quiet (fail)
    all_goals go_wp2_with fail
    go_ret
    exact .inr (.inr (.inl ⟨HA.out, HM.out, HFF.out, rfl, HG.out _⟩))
  · have UF : Hid (∀ n, ∃ U, (w2.alloc (.cells #[.string ⟨#[]⟩, .int .i64 0, .int .u64 0, .int .i64 0, .int .i64 0, .int .i64 0, .bool false, .slice none 0 0] 55)).drewN n = U ∧ Below w2.heap.size w2 U ∧ RowB U w2.heap.size zeroR none 0 ∧ w2.heap.size < U.heap.size) := Lib.hid (fun n => by
      have BU : Below w2.heap.size w2 ((w2.alloc (rowObj zeroR none 0)).drewN n) := W1.out.trans ((below_drewN (w2.alloc (rowObj zeroR none 0)) n).mono W1.out.size)
      have ZU : RowB ((w2.alloc (rowObj zeroR none 0)).drewN n) w2.heap.size zeroR none 0 := ⟨(RowB.new w2 zeroR none 0).blk⟩
      exact ⟨_, rfl, BU, ZU, ZU.lt⟩)
    have HFN := Lib.hid (HF.out hfull)
    clear TU W1
    go_quiet (fail)
    obtain ⟨U, hU, BU, ZU, SU⟩ := UF.out nq
    rw [hU]
    clear UF hU c1u c2u c4u ln1 ln2 HF c0 c4 lk1 lk2
    have TV := (HT1.out.below BU).alloc (.map #[] 0)
    have bU1 : Below w2.heap.size w2 (U.alloc (.map #[] 0)) := BU.alloc BU.size _
    have ZV := ZU.alloc (.map #[] 0)
    have c4v := TV.c4
    have hgm : U.heap.size ≠ bm := by
      have := (HT1.out.below BU).out.lt
      omega
    obtain ⟨w5, r5, t5, cont⟩ := TV.out.opens HS.out H64.out (by have := HL.out; omega) U.heap.size
    have k5 := mapw_turned t5
    have Z5 : RowB w5 w2.heap.size zeroR none 0 := ⟨by
      rw [k5.block _ ZV.lt (fun e => by
        obtain ⟨es, c', hb⟩ := TV.out.is
        rw [← e, ZV.blk] at hb
        cases hb)]
      exact ZV.blk⟩
    have i5 : Inn w5 U.heap.size [] := (Inn.made U).keeps k5 hgm (OffN.map TV.out.is)
    have CA := Lib.hid (begin_walk w5 key (by have := HK.out.sz; have e : ((key, kd) : Nm).1 = key := rfl; rw [e] at this; omega) kd HV.out)
    unfold Tells18 rowVal at CA
    have R5 := Lib.hid r5
    have HZ5 := Lib.hid Z5
    have HI5 := Lib.hid i5
    have HK5 := Lib.hid k5
    have HB5 := Lib.hid (turned_is t5)
    have HTV := Lib.hid TV
    have HCT := Lib.hid cont
    have HSU := Lib.hid SU
    have HBU := Lib.hid bU1
    have HGM := Lib.hid hgm
    clear BU ZU SU TV bU1 ZV hgm r5 t5 cont k5 Z5 i5
    go_wp2_with (first
      | (at_mapUpdate; refine wpList_store rfl _ _ _ _ rfl _ _ _ rfl rfl rfl R5.out ?_)
      | fail)
    · exfalso
      rename_i hx
      rcases hx with e | e
      · exact hfull (by simpa using e)
      · exact X1.out (by simpa using e)
    refine CA.out.mono ?_
    rintro e w3 ⟨B3, c3, rfl, o3, b3⟩
    have Z3 := HZ5.out.below b3 (Nat.le_refl _)
    have f3 := Z3.f
    have d0 := Z3.c0
    have d1 := Z3.c1
    have d2 := Z3.c2
    have d3 := Z3.c3
    have d4 := Z3.c4
    have d5 := Z3.c5
    have d6 := Z3.c6
    have d7 := Z3.c7
    have hgk : U.heap.size ≠ w2.heap.size := by have := HSU.out; omega
    have oX : OwnN (putRow w3 w2.heap.size (beginR key kd val) B3 c3) 0 B3 c3 (beginR key kd val).bks := owns_mono (own_put o3 HZ5.out.lt (beginR key kd val) B3 c3) (Nat.zero_le _)
    have kX : Keeps (fun x => x = w2.heap.size) w3 (putRow w3 w2.heap.size (beginR key kd val) B3 c3) := Keeps.of_grown (putRow_grown _ _ _ _ _) (fun g e => by cases e; rfl)
    have iX : Inn (putRow w3 w2.heap.size (beginR key kd val) B3 c3) U.heap.size [] := (HI5.out.below b3).keeps kX hgk (fun g e c f hb => by
      subst e
      rw [Z3.blk] at hb
      injection hb with hb
      injection hb with _ e _
      exact absurd e (by decide))
    obtain ⟨w4, r4, i4, t4⟩ := iX.store List.Pairwise.nil (by simp) HK.out (v := val) (r := beginR key kd val) rfl oX
    rw [show nmV (key, kd) = .agg #[.string (beginR key kd val).key, .int .i64 kd] from rfl] at r4
    have HTC : Hid (GotP N w a bm t (l ++ [⟨s, (key, kd), val⟩]) w4) := Lib.hid (by
      let F : Nat → Prop := fun x => x = w2.heap.size ∨ x = U.heap.size
      have hF5 : ∀ x, (∃ es c, w5.heap[x]? = some (.map es c)) → x ≠ U.heap.size → ¬ F x := fun x ⟨es, c', hb⟩ hx hf => by
        rcases hf with e | e
        · rw [e, HZ5.out.blk] at hb; cases hb
        · exact hx e
      have kF : Keeps F w5 w4 := ((Keeps.of_below b3 (Nat.le_refl _) F).trans (kX.wide (G := F) (fun g e _ => .inl e)) (fun _ h => .inl h)).trans ((mapw_turned t4).wide (G := F) (fun x e _ => .inr e)) (fun _ h => .inl h)
      have hFm : ¬ F bm := hF5 bm HB5.out (fun e => HGM.out e.symm)
      have hlt : ∀ x ∈ startsW l, blk x ≠ U.heap.size := fun x hx e => by
        have h1 := (HT1.out.out.inn x hx).lt
        have h2 := HSU.out
        omega
      have hFb : ∀ x ∈ startsW l, ¬ F (blk x) := fun x hx => hF5 _ ((HTV.out.out.inn x hx).keeps HK5.out (HTV.out.out.off x hx) (OffN.map HTV.out.out.is)).is (hlt x hx)
      have hFN : OffN w5 F := fun g hg c' f hb => by
        rcases hg with e | e
        · rw [e, HZ5.out.blk] at hb
          injection hb with hb
          injection hb with _ e _
          exact absurd e (by decide)
        · obtain ⟨es, cl, hi⟩ := HI5.out.is
          rw [e, hi] at hb
          cases hb
      have hO := HCT.out w4 F (key, kd) val kF hFm hFb hFN hlt HGM.out i4
      have hta := HTV.out.ne HTV.out.out.is
      have h5a : w5.heap[a]? = some (.cells (tabCells t bm) 59 (0, 0)) := by rw [HK5.out.block a HTV.out.lt hta]; exact HTV.out.cel
      have hFa : ¬ F a := fun hf => by
        have h1 := HT1.out.lt
        have h2 := HSU.out
        rcases hf with e | e <;> omega
      have hmem : ∀ x, x ∈ startsW (l ++ [⟨s, (key, kd), val⟩]) ↔ x = s ∨ x ∈ startsW l := fun x => by rw [starts_next]; exact insW_mem
      have hNg : N ≤ U.heap.size := by
        have h1 := HT1.out.na
        have h2 := HT1.out.lt
        have h3 := HSU.out
        omega
      refine ⟨_, ⟨by rw [kF.block a (lt_of_block h5a) hFa]; exact h5a, hO, HT.out.na, HT.out.nb, fun x hx => ?_⟩, ?_⟩
      · rcases (hmem x).1 hx with rfl | hx1
        · simp only [if_pos]; exact hNg
        · have : x ≠ s := fun e => HS.out (e ▸ hx1)
          simp only [if_neg this]
          exact HT.out.ns x hx1
      · have k1 : Kq N w (U.alloc (.map #[] 0)) := Kq.below (B1.out.trans (HBU.out.mono B1.out.size))
        have k2 := k1.trans (Kq.map HTV.out.nb HTV.out.out.is HK5.out)
        have s1 := B1.out.size
        have s2 := HSU.out
        exact Keeps.trans k2 kF (fun g hg => by rcases hg with e | e <;> (right; omega)))
    have R4 := Lib.hid r4
    clear oX kX iX r4 i4 t4 hgk b3 o3 CA hfull
    go_wp2_with (first
      | (at_mapUpdate; refine wpList_store rfl _ _ _ _ rfl _ _ _ rfl rfl rfl R4.out ?_)
      | fail)
    go_ret
    exact .inr (.inr (.inr ⟨HA.out, HM.out, HFN.out, rfl, HTC.out⟩))
/-- All ways together. -/
theorem add_walk20 (h : Tq N w a bm t l blk) (hL : Laid w) (hk : key.size ≤ 9223372036854775807) (hg : GoodU t) (hc : CapW t l) (hv : In64 val) (hl : l.length ≤ 100) (hp : ∀ p ∈ l, PtOk p) :
    Calls Tryz.prog 15 #[.pointer (some ⟨a, 0, none⟩), .int .i64 mark, .string key, .int .i64 kd, .int .i64 val, .int .i64 time] w (AddP N w a bm t l (keyOk key) (key, kd) kd time val mark) := by
  by_cases ha : AskT (keyOk key) kd time
  · by_cases hm : startOf t.wd time + t.wd ≤ mark
    · exact add_late20 h hL hg ha hm
    · by_cases hs : startOf t.wd time ∈ startsW l
      · cases hr : getW (key, kd) (rowsW (startOf t.wd time) l) with
        | none => exact add_new20 h hL hg hc ha hm hv hl hs hr
        | some r => exact add_old20 h hL hg ha hm hv hl hp hs hr
      · exact add_open20 h hL hg hc ha hm hv hl hs
  · exact add_bad20 h hL hk ha
end
end Go.Proofs.YtedhciolnekpaaaGreatDoor
