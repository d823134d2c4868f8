/-
  Layer 19: the law MarkTells.
-/
import Derived.Test.YtkmgifmfobopoaaMarkUp
import Derived.Test.YtkmgifmfobopoaaMarkRef
import Derived.Test.YtkmgifmfobopoaaDbis
import Derived.Deep.LoopGhost
import Derived.Deep.Cut
import Derived.Deep.CutRange
import Derived.Deep.RegionHeldLaw
namespace Go.Proofs.Ytkmgifmfobopoaa
open Go.ChangeShapes Go.WideShapes Go.ChangeAt Go.RowKit Go.Deep
set_option linter.unusedVariables false

/-- The document's mark laid by itself. -/
abbrev markR (L I : Int) : Obj := .cells #[.int .i64 L, .int .i64 I, .bool false, .int .i64 0, .int .i64 0, .int .i64 0] 32 (0, 0)
theorem mark_laid (w : World) (L I : Int) : Gr (w.alloc (markR L I)) w.heap.size L I Mk.new := heap_alloc_new w _
/-- The four ways in which none may be, as the law asks. -/
theorem law_bad {L I : Int} (h : ¬ GoodM L I) : L < 0 ∨ (¬ L < 0 ∧ 1099511627776 < L) ∨ (¬ L < 0 ∧ ¬ 1099511627776 < L ∧ I < 1) ∨ (¬ L < 0 ∧ ¬ 1099511627776 < L ∧ ¬ I < 1 ∧ 1099511627776 < I) := by
  by_cases a : L < 0
  · exact .inl a
  by_cases b : 1099511627776 < L
  · exact .inr (.inl ⟨a, b⟩)
  by_cases c : I < 1
  · exact .inr (.inr (.inl ⟨a, b, c⟩))
  by_cases d : 1099511627776 < I
  · exact .inr (.inr (.inr ⟨a, b, c, d⟩))
  exact absurd ⟨⟨by omega, by omega⟩, ⟨by omega, by omega⟩, by omega⟩ h
set_option maxRecDepth 100000 in
set_option maxHeartbeats 1000000 in
theorem tells_bad (L I : Int) (A : Option Addr) (cap n : Nat) (W : World) (h : ¬ GoodM L I) :
    Calls Try.prog 3 #[.int .i64 L, .int .i64 I, .slice A n cap] W (Holds W) := by
  have CU := Lib.hid (up_mark W)
  have CN := Lib.hid (fun w => new_bad w h)
  unfold errM at CN
  have eqc := eql_codes
  have x := law_bad h
  clear h
  rcases x with x1 | ⟨x1, x2⟩ | ⟨x1, x2, x3⟩ | ⟨x1, x2, x3, x4⟩
  all_goals
    go_enter Try.func3, Try.ntmps3
    go_wp2_with fail
    refine CU.out.mono ?_
    rintro e w1 ⟨rfl, b1⟩
    go_wp2_with fail
    refine (CN.out _).mono ?_
    rintro e w2 ⟨rfl, rfl⟩
    go_wp2_with fail
    go_ret
    exact ⟨rfl, b1⟩
set_option maxRecDepth 100000 in
set_option maxHeartbeats 1000000 in
theorem tells_many (L I : Int) (A : Option Addr) (cap n : Nat) (W : World) (h : GoodM L I) (hn : 300 < n) :
    Calls Try.prog 3 #[.int .i64 L, .int .i64 I, .slice A n cap] W (Holds W) := by
  have CU := Lib.hid (up_mark W)
  have CN := Lib.hid (fun w => new_good w h)
  have x1 : ¬ L < 0 := by have := h.l.n0; omega
  have x2 : ¬ 1099511627776 < L := by have := h.l.n1; omega
  have x3 : ¬ I < 1 := by have := h.o; omega
  have x4 : ¬ 1099511627776 < I := by have := h.i.n1; omega
  have i3 : (300 : Int) < n := by omega
  clear h hn
  go_enter Try.func3, Try.ntmps3
  go_wp2_with fail
  refine CU.out.mono ?_
  rintro e w1 ⟨rfl, b1⟩
  go_wp2_with fail
  refine (CN.out _).mono ?_
  rintro e w2 ⟨rfl, h2, b2⟩
  have B2 := Lib.hid (b1.trans (b2.mono b1.size))
  clear b1 b2 h2 CN CU
  go_wp2_with fail
  go_ret
  exact ⟨rfl, B2.out⟩
/-- The program's mark and the document's, side by side, and (from x on) what the round has laid. -/
structure Tw (W w : World) (a b : Nat) (L I : Int) (sp sr : Mk) : Prop where
  g : Gp w a L I sp
  r : Gr w b L I sr
  bel : Below W.heap.size W w
  ha : W.heap.size ≤ a
  hb : W.heap.size ≤ b
  ne : a ≠ b
/-- .. with a deed laid at block x. -/
structure Td (W w : World) (a b x : Nat) (L I : Int) (o : Obj) (sp sr : Mk) : Prop where
  t : Tw W w a b L I sp sr
  o : w.heap[x]? = some o
  xa : x ≠ a
  xb : x ≠ b
section
variable {W w w' : World} {a b x : Nat} {L I : Int} {sp sr s' : Mk} {o : Obj}
theorem Tw.turnP (h : Tw W w a b L I sp sr) (k : Mp w w' a L I s') : Tw W w' a b L I s' sr :=
  ⟨k.gp, h.r.keeps k.kp (fun e => h.ne e.symm), h.bel.trans (k.kp.below (B := W.heap.size) (fun g e => by subst e; exact h.ha) h.bel.size), h.ha, h.hb, h.ne⟩
theorem Tw.turnR (h : Tw W w a b L I sp sr) (k : Mr w w' b L I s') : Tw W w' a b L I sp s' :=
  ⟨h.g.keeps k.kp h.ne, k.gr, h.bel.trans (k.kp.below (B := W.heap.size) (fun g e => by subst e; exact h.hb) h.bel.size), h.ha, h.hb, h.ne⟩
theorem Tw.drewN (h : Tw W w a b L I sp sr) (n : Nat) : Tw W (w.drewN n) a b L I sp sr :=
  ⟨h.g.drewN n, h.r.drewN n, h.bel.trans ((below_drewN w n).mono h.bel.size), h.ha, h.hb, h.ne⟩
theorem Tw.drew (h : Tw W w a b L I sp sr) : Tw W w.drew a b L I sp sr := h.drewN 1
theorem Tw.deed (h : Tw W w a b L I sp sr) (o : Obj) : Td W (w.alloc o) a b w.heap.size L I o sp sr :=
  ⟨⟨h.g.still ((Below.refl _ w).alloc (Nat.le_refl _) o), h.r.still ((Below.refl _ w).alloc (Nat.le_refl _) o), h.bel.alloc h.bel.size o, h.ha, h.hb, h.ne⟩,
   heap_alloc_new w o, by have := h.g.lt; omega, by have := h.r.lt; omega⟩
theorem Td.turnP (h : Td W w a b x L I o sp sr) (k : Mp w w' a L I s') : Td W w' a b x L I o s' sr := ⟨h.t.turnP k, keeps_out k.kp h.o h.xa, h.xa, h.xb⟩
theorem Td.turnR (h : Td W w a b x L I o sp sr) (k : Mr w w' b L I s') : Td W w' a b x L I o sp s' := ⟨h.t.turnR k, keeps_out k.kp h.o h.xb, h.xa, h.xb⟩
theorem Td.drew (h : Td W w a b x L I o sp sr) : Td W w.drew a b x L I o sp sr := ⟨h.t.drew, h.o, h.xa, h.xb⟩
end
abbrev deedO (bt : Bool) (now time : Int) : Obj := .cells #[.bool bt, .int .i64 now, .int .i64 time] 34 (0, 0)
theorem Td.cells {W w : World} {a b x : Nat} {L I now time : Int} {bt : Bool} {sp sr : Mk} (h : Td W w a b x L I (deedO bt now time) sp sr) :
    w.cell? ⟨x, 1, none⟩ = some (.int .i64 now) ∧ w.cell? ⟨x, 2, none⟩ = some (.int .i64 time) := ⟨cell_of_block h.o, cell_of_block h.o⟩
set_option maxRecDepth 100000 in
set_option maxHeartbeats 4000000 in
theorem tells_walk (L I : Int) (A : Option Addr) (cap : Nat) (l : List Dbi) (W : World) (h : GoodM L I) (hA : RdB W A l) (hl : l.length ≤ 300) :
    Calls Try.prog 3 #[.int .i64 L, .int .i64 I, .slice A l.length cap] W (Holds W) := by
  have CU := Lib.hid (up_mark W)
  have CN := Lib.hid (fun w => new_good w h)
  have HG := Lib.hid h
  have HA := Lib.hid hA
  obtain ⟨K, hK⟩ : ∃ K, l.length = K := ⟨_, rfl⟩
  have HK := Lib.hid hK
  rw [hK] at hl ⊢
  have x1 : ¬ L < 0 := by have := h.l.n0; omega
  have x2 : ¬ 1099511627776 < L := by have := h.l.n1; omega
  have x3 : ¬ I < 1 := by have := h.o; omega
  have x4 : ¬ 1099511627776 < I := by have := h.i.n1; omega
  have i3 : ¬ (300 : Int) < K := by omega
  clear h hA hK hl
  go_enter Try.func3, Try.ntmps3
  go_wp2_with fail
  refine CU.out.mono ?_
  rintro e w1 ⟨rfl, b1⟩
  go_wp2_with fail
  refine (CN.out _).mono ?_
  rintro e w2 ⟨rfl, h2, b2⟩
  obtain ⟨a, ha⟩ : ∃ a, w1.heap.size = a := ⟨_, rfl⟩
  rw [ha] at h2 ⊢
  obtain ⟨b, hb⟩ : ∃ b, w2.heap.size = b := ⟨_, rfl⟩
  have B2 := Lib.hid (b1.trans (b2.mono b1.size))
  have S3 : Hid (Tw W (w2.alloc (markR L I)) a b L I Mk.new Mk.new) := Lib.hid
    ⟨h2.still ((Below.refl _ w2).alloc (Nat.le_refl _) _), by rw [← hb]; exact mark_laid w2 L I, B2.out.alloc B2.out.size _, by rw [← ha]; exact b1.size, by rw [← hb]; exact B2.out.size, by have := h2.lt; omega⟩
  have O3 := Lib.hid MkOk.new
  clear b1 b2 h2 CN CU ha B2
  go_wp2_with fail
  clear x1 x2 x3 x4 i3 hb
  go_loopg [11] K (fun g s11 wx => ∃ (i : Nat) (s : Mk), i + g = K ∧ s11 = .int .i64 (i : Nat) ∧ Hid (Tw W wx a b L I s s) ∧ Hid (MkOk s))
  case atStart => exact ⟨0, Mk.new, by omega, rfl, S3, O3⟩
  case round =>
    clear S3 O3
    obtain ⟨i, s, hi, rfl, HS, HO⟩ := hrel
    cases gk with
    | zero =>
      have x1 : ¬ i < K := by omega
      go_wp2_with fail
      go_ret
      exact ⟨rfl, HS.out.bel⟩
    | succ g =>
      have x1 : i < K := by omega
      obtain ⟨⟨bt, now, time⟩, hd⟩ : ∃ d, l[i]? = some d := ⟨l[i]'(by have := HK.out; omega), List.getElem?_eq_getElem _⟩
      obtain ⟨b0, o, rfl, hat⟩ := HA.out.at hd
      dsimp only at hat
      obtain ⟨p0, p1, p2⟩ := hat _ HS.out.bel
      have HI := Lib.hid hi
      obtain ⟨x, hx⟩ : ∃ x, wr.heap.size = x := ⟨_, rfl⟩
      have HD : Hid (Td W (wr.alloc (deedO bt now time)) a b x L I (deedO bt now time) s s) := Lib.hid (by rw [← hx]; exact HS.out.deed _)
      have D0 := Lib.hid HD.out.drew
      have q0 : (wr.alloc (deedO bt now time)).cell? ⟨x, 0, none⟩ = some (.bool bt) := cell_of_block HD.out.o
      clear hd hat hi
      cases bt with
      | true =>
        obtain ⟨s', hs'⟩ : ∃ s', tickM I s now = s' := ⟨_, rfl⟩
        obtain ⟨r, hr⟩ : ∃ r, decide (FairM s now) = r := ⟨_, rfl⟩
        obtain ⟨n, hn⟩ : ∃ n, standM L s' = n := ⟨_, rfl⟩
        have HS' := Lib.hid hs'
        have HR := Lib.hid hr
        have HN := Lib.hid hn
        have OK : Hid (MkOk s') := Lib.hid (hs' ▸ HO.out.tick I now)
        have CP : Hid (∀ w sr, Td W w a b x L I (deedO true now time) s sr → Calls Try.prog 7 #[.pointer (some ⟨a, 0, none⟩), .int .i64 now] w fun e w' => e = .returned (.bool r) ∧ Td W w' a b x L I (deedO true now time) s' sr) := Lib.hid (fun w sr t => by
          have := tick_walk t.t.g HO.out HG.out now
          rw [HS'.out, HR.out] at this
          exact this.mono (fun e w' k => ⟨k.1, t.turnP k.2⟩))
        have CR : Hid (∀ w sp, Td W w a b x L I (deedO true now time) sp s → Calls Try.prog 8 #[.pointer (some ⟨b, 0, none⟩), .int .i64 now] w fun e w' => e = .returned (.bool r) ∧ Td W w' a b x L I (deedO true now time) sp s') := Lib.hid (fun w sp t => by
          have := ref_tick t.t.r HO.out HG.out now
          rw [HS'.out, HR.out] at this
          exact this.mono (fun e w' k => ⟨k.1, t.turnR k.2⟩))
        have CA : Hid (∀ w, Tw W w a b L I s' s' → Calls Try.prog 11 #[.pointer (some ⟨a, 0, none⟩)] w fun e w' => e = .returned (.int .i64 n) ∧ Tw W w' a b L I s' s') := Lib.hid (fun w t => by
          have := at_walk t.g OK.out HG.out
          rw [HN.out] at this
          exact this.mono (fun e w' k => ⟨k.1, by obtain ⟨j, e⟩ := k.2; rw [e]; exact t.drewN j⟩))
        have CS : Hid (∀ w, Tw W w a b L I s' s' → Calls Try.prog 12 #[.pointer (some ⟨b, 0, none⟩)] w fun e w' => e = .returned (.int .i64 n) ∧ Tw W w' a b L I s' s') := Lib.hid (fun w t => by
          have := ref_stand t.r OK.out HG.out
          rw [HN.out] at this
          exact this.mono (fun e w' k => ⟨k.1, by obtain ⟨j, e⟩ := k.2; rw [e]; exact t.drewN j⟩))
        clear hs' hr hn HS HD
        go_wp2_with fail
        go_region_held (fun w' => w'.cell? ⟨x, 1, none⟩ = some (.int .i64 now) ∧ w'.cell? ⟨x, 2, none⟩ = some (.int .i64 time))
          (first | exact D0.out.cells | exact Td.cells (by assumption))
          (first
            | (go_at_call 7; first
                | ((with_reducible refine (CP.out _ _ D0.out).mono ?_); rintro e w3 ⟨rfl, t3⟩)
                | ((with_reducible refine (CP.out _ _ t3).mono ?_); rintro e w4 ⟨rfl, t4⟩))
            | (go_at_call 8; first
                | ((with_reducible refine (CR.out _ _ D0.out).mono ?_); rintro e w3 ⟨rfl, t3⟩)
                | ((with_reducible refine (CR.out _ _ t3).mono ?_); rintro e w4 ⟨rfl, t4⟩)))
        all_goals
          have H4 := Lib.hid t4.t
          clear t3 t4 D0 p0 p1 p2 q0
          go_wp2_with fail
          refine (CA.out _ H4.out).mono ?_
          rintro e w5 ⟨rfl, t5⟩
          have H5 := Lib.hid t5
          clear t5
          go_wp2_with fail
          refine (CS.out _ H5.out).mono ?_
          rintro e w6 ⟨rfl, t6⟩
          have H6 := Lib.hid t6
          clear t6
          go_wp2_with fail
          go_roundg g
          case rel => exact ⟨i + 1, s', by have := HI.out; omega, by go_num, H6, OK⟩
          case measure => omega
      | false =>
        obtain ⟨s', hs'⟩ : ∃ s', seeM s now time = s' := ⟨_, rfl⟩
        obtain ⟨r, hr⟩ : ∃ r, decide (SeesM s now time) = r := ⟨_, rfl⟩
        obtain ⟨n, hn⟩ : ∃ n, standM L s' = n := ⟨_, rfl⟩
        have HS' := Lib.hid hs'
        have HR := Lib.hid hr
        have HN := Lib.hid hn
        have OK : Hid (MkOk s') := Lib.hid (hs' ▸ HO.out.see now time)
        have CP : Hid (∀ w sr, Td W w a b x L I (deedO false now time) s sr → Calls Try.prog 9 #[.pointer (some ⟨a, 0, none⟩), .int .i64 now, .int .i64 time] w fun e w' => e = .returned (.bool r) ∧ Td W w' a b x L I (deedO false now time) s' sr) := Lib.hid (fun w sr t => by
          have := see_walk t.t.g now time
          rw [HS'.out, HR.out] at this
          exact this.mono (fun e w' k => ⟨k.1, t.turnP k.2⟩))
        have CR : Hid (∀ w sp, Td W w a b x L I (deedO false now time) sp s → Calls Try.prog 10 #[.pointer (some ⟨b, 0, none⟩), .int .i64 now, .int .i64 time] w fun e w' => e = .returned (.bool r) ∧ Td W w' a b x L I (deedO false now time) sp s') := Lib.hid (fun w sp t => by
          have := ref_see t.t.r now time
          rw [HS'.out, HR.out] at this
          exact this.mono (fun e w' k => ⟨k.1, t.turnR k.2⟩))
        have CA : Hid (∀ w, Tw W w a b L I s' s' → Calls Try.prog 11 #[.pointer (some ⟨a, 0, none⟩)] w fun e w' => e = .returned (.int .i64 n) ∧ Tw W w' a b L I s' s') := Lib.hid (fun w t => by
          have := at_walk t.g OK.out HG.out
          rw [HN.out] at this
          exact this.mono (fun e w' k => ⟨k.1, by obtain ⟨j, e⟩ := k.2; rw [e]; exact t.drewN j⟩))
        have CS : Hid (∀ w, Tw W w a b L I s' s' → Calls Try.prog 12 #[.pointer (some ⟨b, 0, none⟩)] w fun e w' => e = .returned (.int .i64 n) ∧ Tw W w' a b L I s' s') := Lib.hid (fun w t => by
          have := ref_stand t.r OK.out HG.out
          rw [HN.out] at this
          exact this.mono (fun e w' k => ⟨k.1, by obtain ⟨j, e⟩ := k.2; rw [e]; exact t.drewN j⟩))
        clear hs' hr hn HS HD
        go_wp2_with fail
        go_region_held (fun w' => w'.cell? ⟨x, 1, none⟩ = some (.int .i64 now) ∧ w'.cell? ⟨x, 2, none⟩ = some (.int .i64 time))
          (first | exact D0.out.cells | exact Td.cells (by assumption))
          (first
            | (go_at_call 9; first
                | ((with_reducible refine (CP.out _ _ D0.out).mono ?_); rintro e w3 ⟨rfl, t3⟩)
                | ((with_reducible refine (CP.out _ _ t3).mono ?_); rintro e w4 ⟨rfl, t4⟩))
            | (go_at_call 10; first
                | ((with_reducible refine (CR.out _ _ D0.out).mono ?_); rintro e w3 ⟨rfl, t3⟩)
                | ((with_reducible refine (CR.out _ _ t3).mono ?_); rintro e w4 ⟨rfl, t4⟩)))
        all_goals
          have H4 := Lib.hid t4.t
          clear t3 t4 D0 p0 p1 p2 q0
          go_wp2_with fail
          refine (CA.out _ H4.out).mono ?_
          rintro e w5 ⟨rfl, t5⟩
          have H5 := Lib.hid t5
          clear t5
          go_wp2_with fail
          refine (CS.out _ H5.out).mono ?_
          rintro e w6 ⟨rfl, t6⟩
          have H6 := Lib.hid t6
          clear t6
          go_wp2_with fail
          go_roundg g
          case rel => exact ⟨i + 1, s', by have := HI.out; omega, by go_num, H6, OK⟩
          case measure => omega
end Go.Proofs.Ytkmgifmfobopoaa
