/-
  Layer 23: the law FuseShuts.
-/
import Derived.Test.YtihloamiibelgaaFuseUp
import Derived.Test.YtihloamiibelgaaTriples
import Derived.Test.YtihloamiibelgaaVals
import Derived.Deep.LoopGhost
import Derived.Deep.Cut
import Derived.Deep.CutRange
namespace Go.Proofs.Ytihloamiibelgaa
open Go.ChangeShapes Go.WideShapes Go.ChangeAt Go.RowKit
set_option linter.unusedVariables false

theorem off_addV (b o i : Nat) : (⟨b, o, none⟩ : Addr).add i = ⟨b, o + i, none⟩ := by
  unfold Addr.add
  split
  · subst_vars; rfl
  · rfl
/-- Whole numbers of 64 bits that were handed in read as whole numbers that were. -/
theorem vals_nums {w : World} {A : Option Addr} {cap : Nat} {l : List Int} (h : RdV w A cap l) : RdI w A l := by
  rcases Nat.eq_zero_or_pos l.length with h0 | h0
  · exact .inl (List.length_eq_zero_iff.1 h0)
  · obtain ⟨ad, rfl⟩ := h.some_of h0
    obtain ⟨b, o, spot⟩ := ad
    have h1 := h.rd _ rfl 0 (l[0]'h0) (List.getElem?_eq_getElem h0)
    have hsp : spot = none := by
      have := World.cell?_spot h1
      simpa [Addr.add] using this
    subst hsp
    exact .inr ⟨b, o, rfl, fun i x hi => by have := h.rd _ rfl i x hi; rwa [off_addV] at this⟩
section
variable {b p n c : Int} {f : Nat}
theorem ask_0 (h : WiF n) : YesF p ⟨0, f, c⟩ n ∧ askF p ⟨0, f, c⟩ n = ⟨0, f, c⟩ := ⟨⟨h, .inl rfl⟩, if_neg (fun e => by cases e.2)⟩
theorem ask_1y (h : WiF n) (q : c + p ≤ n) : YesF p ⟨1, f, c⟩ n ∧ askF p ⟨1, f, c⟩ n = ⟨2, f, c⟩ := ⟨⟨h, .inr ⟨rfl, q⟩⟩, if_pos ⟨⟨h, .inr ⟨rfl, q⟩⟩, rfl⟩⟩
theorem ask_1n (h : ¬ (WiF n ∧ c + p ≤ n)) : ¬ YesF p ⟨1, f, c⟩ n ∧ askF p ⟨1, f, c⟩ n = ⟨1, f, c⟩ := by
  have y : ¬ YesF p ⟨1, f, c⟩ n := fun e => h ⟨e.1, e.2.elim (fun z => by cases z) (fun z => z.2)⟩
  exact ⟨y, if_neg (fun e => y e.1)⟩
theorem ask_2 : ¬ YesF p ⟨2, f, c⟩ n ∧ askF p ⟨2, f, c⟩ n = ⟨2, f, c⟩ := by
  have y : ¬ YesF p ⟨2, f, c⟩ n := fun e => e.2.elim (fun z => by cases z) (fun z => by cases z.1)
  exact ⟨y, if_neg (fun e => y e.1)⟩
theorem bad_0 (h : WiF n) (q : (f : Int) + 1 < b) : badF b ⟨0, f, c⟩ n = ⟨0, f + 1, c⟩ := by
  unfold badF
  rw [if_neg (fun e => e.elim (fun z => z h) (fun z => by cases z)), if_neg (fun e => by cases e), if_pos q]
theorem bad_0' (h : WiF n) (q : ¬ (f : Int) + 1 < b) : badF b ⟨0, f, c⟩ n = ⟨1, f + 1, n⟩ := by
  unfold badF
  rw [if_neg (fun e => e.elim (fun z => z h) (fun z => by cases z)), if_neg (fun e => by cases e), if_neg q]
theorem bad_2 (h : WiF n) : badF b ⟨2, f, c⟩ n = ⟨1, f, n⟩ := by
  unfold badF
  rw [if_neg (fun e => e.elim (fun z => z h) (fun z => by cases z)), if_pos rfl]
end
/-- The program's fuse, in a block of the law's own. -/
structure Sh (W w : World) (a : Nat) (b p : Int) (s : Fz) : Prop where
  f : Fb 44 w a b p s
  bel : Below W.heap.size W w
  ha : W.heap.size ≤ a
theorem Sh.turn {W w w' : World} {a : Nat} {b p : Int} {s s' : Fz} (h : Sh W w a b p s) (m : Mf 44 w w' a b p s') : Sh W w' a b p s' :=
  ⟨m.f, h.bel.trans (m.kp.below (B := W.heap.size) (fun g e => by subst e; exact h.ha) h.bel.size), h.ha⟩
set_option maxRecDepth 100000 in
set_option maxHeartbeats 1000000 in
theorem shuts_bad (B P T : Int) (A : Option Addr) (cap n : Nat) (gd : Bool) (W : World) (h : ¬ GoodF B P) :
    Calls Try.prog 4 #[.int .i64 B, .int .i64 P, .int .i64 T, .slice A n cap, .bool gd] W (Holds W) := by
  have CU := Lib.hid (up_fuse W)
  have CN := Lib.hid (fun w => newF_bad w B P h)
  unfold errF at CN
  clear h
  go_enter Try.func4, Try.ntmps4
  go_wp2_with fail
  refine CU.out.mono ?_
  rintro e w1 ⟨rfl, b1⟩
  go_wp2_with fail
  refine (CN.out _).mono ?_
  rintro e w2 ⟨rfl, rfl⟩
  go_wp2_with fail
  go_ret
  exact ⟨rfl, b1⟩
set_option maxRecDepth 100000 in
set_option maxHeartbeats 1000000 in
theorem shuts_far (B P T : Int) (A : Option Addr) (cap n : Nat) (gd : Bool) (W : World) (h : GoodF B P) (hx : T < 0 ∨ (¬ T < 0 ∧ 1000000000 < T) ∨ (¬ T < 0 ∧ ¬ 1000000000 < T ∧ 300 < n)) :
    Calls Try.prog 4 #[.int .i64 B, .int .i64 P, .int .i64 T, .slice A n cap, .bool gd] W (Holds W) := by
  have CU := Lib.hid (up_fuse W)
  have CN := Lib.hid (fun w => newF_good w B P h)
  clear h
  rcases hx with x | ⟨x1, x2⟩ | ⟨x1, x2, x3⟩
  all_goals
    go_enter Try.func4, Try.ntmps4
    try have i3 : (300 : Int) < n := by omega
    try clear x3
    go_wp2_with fail
    refine CU.out.mono ?_
    rintro e w1 ⟨rfl, b1⟩
    go_wp2_with fail
    refine (CN.out _).mono ?_
    rintro e w2 ⟨rfl, h2, b2⟩
    have B2 := Lib.hid (b1.trans (b2.mono b1.size))
    clear b1 b2 h2 CN CU
    go_wp2_with fail
    go_ret
    exact ⟨rfl, B2.out⟩
set_option maxRecDepth 100000 in
set_option maxHeartbeats 4000000 in
theorem shuts_walk (N : Nat) (P T : Int) (A : Option Addr) (cap : Nat) (l : List Int) (gd : Bool) (W : World) (h : GoodF N P) (t0 : ¬ T < 0) (t1 : ¬ 1000000000 < T) (hA : RdI W A l) (hF : ∀ x ∈ l, InI x) (hl : l.length ≤ 300) :
    Calls Try.prog 4 #[.int .i64 (N : Nat), .int .i64 P, .int .i64 T, .slice A l.length cap, .bool gd] W (Holds W) := by
  have CU := Lib.hid (up_fuse W)
  have CN := Lib.hid (fun w => newF_good w N P h)
  have HG := Lib.hid h
  have HA := Lib.hid hA
  have HF := Lib.hid hF
  obtain ⟨b1, b2, p1, p2⟩ := h
  have hW : Hid (WiF T) := Lib.hid ⟨by omega, by omega⟩
  have hU : Hid (WiF (T + P)) := Lib.hid ⟨by omega, by omega⟩
  have OK0 : Hid (∀ i : Nat, i < N → FzOk N ⟨0, i, 0⟩) := Lib.hid (fun i hi => ⟨Nat.zero_le _, by show i ≤ 1000; omega, fun _ => by show (i : Int) < N; omega, by show WiF 0; unfold WiF; decide⟩)
  have OK1 : Hid (FzOk N ⟨1, N, T⟩) := Lib.hid ⟨Nat.le_succ 1, by show N ≤ 1000; omega, (fun e => by cases e), hW.out⟩
  have OK2 : Hid (FzOk N ⟨2, N, T⟩) := Lib.hid ⟨Nat.le_refl 2, by show N ≤ 1000; omega, (fun e => by cases e), hW.out⟩
  have CA : Hid (∀ (a : Nat) (w : World) (s s' : Fz) (x : Int) (v : Value), Sh W w a N P s → FzOk N s → -9223372036854775808 ≤ x → x ≤ 9223372036854775807 → askV P s x = v → askF P s x = s' →
      Calls Try.prog 9 #[.pointer (some ⟨a, 0, none⟩), .int .i64 x] w fun e w' => e = .returned v ∧ Sh W w' a N P s') :=
    Lib.hid (fun a w s s' x v hs ok x0 x1 e1 e2 => by
      subst e1 e2
      exact (ask_walk hs.f HG.out ok x x0 x1).mono (fun e w' k => ⟨k.1, hs.turn k.2⟩))
  have CB : Hid (∀ (a : Nat) (w : World) (s s' : Fz) (x : Int), Sh W w a N P s → FzOk N s → -9223372036854775808 ≤ x → x ≤ 9223372036854775807 → badF N s x = s' →
      Calls Try.prog 13 #[.pointer (some ⟨a, 0, none⟩), .int .i64 x] w fun e w' => e = .returned (.tuple #[]) ∧ Sh W w' a N P s') :=
    Lib.hid (fun a w s s' x hs ok x0 x1 e2 => by
      subst e2
      exact (bad_walk hs.f HG.out ok x x0 x1).mono (fun e w' k => ⟨k.1, hs.turn k.2⟩))
  have CS : Hid (∀ (a : Nat) (w : World) (s : Fz) (z : Int), Sh W w a N P s → ((s.st : Nat) : Int) = z →
      Calls Try.prog 15 #[.pointer (some ⟨a, 0, none⟩)] w fun e w' => e = .returned (.int .i64 z) ∧ w = w') :=
    Lib.hid (fun a w s z hs e => by subst e; exact state_walk hs.f)
  obtain ⟨K, hK⟩ : ∃ K, l.length = K := ⟨_, rfl⟩
  have HK := Lib.hid hK
  rw [hK] at hl ⊢
  have i3 : ¬ (300 : Int) < K := by omega
  have zU : IntKind.i64.wrap (T + P) = T + P := by rw [IntKind.wrap_i64]; omega
  clear hA hF hK
  go_enter Try.func4, Try.ntmps4
  go_wp2_with fail
  refine CU.out.mono ?_
  rintro e w1 ⟨rfl, d1⟩
  go_wp2_with fail
  refine (CN.out _).mono ?_
  rintro e w2 ⟨rfl, h2, d2⟩
  obtain ⟨a, ha⟩ : ∃ a, w1.heap.size = a := ⟨_, rfl⟩
  rw [ha] at h2 ⊢
  have S2 : Hid (Sh W w2 a N P ⟨0, 0, 0⟩) := Lib.hid ⟨h2, d1.trans (d2.mono d1.size), by rw [← ha]; exact d1.size⟩
  clear d1 d2 h2 CU CN ha
  go_wp2_with fail
  go_loopg [14] N (fun g s14 wx => ∃ (i : Nat) (s : Fz), i + g = N ∧ s14 = .int .i64 (i : Nat) ∧ Hid (Sh W wx a N P s) ∧ Hid ((i < N → s = ⟨0, i, 0⟩) ∧ (i = N → s = ⟨1, N, T⟩)))
  case atStart => exact ⟨0, ⟨0, 0, 0⟩, by omega, rfl, S2, Lib.hid ⟨fun _ => rfl, fun e => by omega⟩⟩
  case round =>
    clear S2
    obtain ⟨i, s, hi, rfl, HS, HV⟩ := hrel
    cases gk with
    | zero =>
      have x1 : ¬ i < N := by omega
      have S3 : Hid (Sh W wr a N P ⟨1, N, T⟩) := Lib.hid (by have := HV.out.2 (by omega); rw [this] at HS; exact HS.out)
      clear HS HV hi
      go_wp2_with fail
      go_loopg [15, 16] K (fun g s15 s16 wx => ∃ (i : Nat) (z : Int) (s : Fz), i + g = K ∧ s15 = .int .i64 z ∧ s16 = .int .i64 (i : Nat) ∧ ((z = 0 ∧ Hid (s = ⟨1, N, T⟩)) ∨ (z = 1 ∧ Hid (s = ⟨2, N, T⟩))) ∧ Hid (Sh W wx a N P s))
      case atStart => exact ⟨0, 0, _, by omega, rfl, rfl, .inl ⟨rfl, Lib.hid rfl⟩, S3⟩
      case round =>
        clear S3
        obtain ⟨i, z, s, hi, rfl, rfl, hz, HS⟩ := hrel
        cases gk with
        | zero =>
          have x1 : ¬ i < K := by omega
          obtain ⟨v, hv, hs, hq⟩ : ∃ v : Value, askV P s (T + P) = v ∧ askF P s (T + P) = ⟨2, N, T⟩ ∧ ((z = 0 ∧ v = .nilIface) ∨ (z = 1 ∧ v = errF 9)) := by
            rcases hz with ⟨rfl, e⟩ | ⟨rfl, e⟩
            · rw [e.out]
              exact ⟨_, askV_yes (ask_1y hU.out (by omega)).1, (ask_1y hU.out (by omega)).2, .inl ⟨rfl, rfl⟩⟩
            · rw [e.out]
              exact ⟨_, askV_no ask_2.1, ask_2.2, .inr ⟨rfl, rfl⟩⟩
          have OK : Hid (FzOk N s) := by
            rcases hz with ⟨rfl, e⟩ | ⟨rfl, e⟩
            · rw [e.out]; exact OK1
            · rw [e.out]; exact OK2
          have HE := Lib.hid hv
          have HE2 := Lib.hid hs
          have OKg : Hid (FzOk N (goodF ⟨2, N, T⟩)) := Lib.hid (FzOk.good HG.out OK2.out)
          have CG : Hid (∀ w, Sh W w a N P ⟨2, N, T⟩ → Calls Try.prog 11 #[.pointer (some ⟨a, 0, none⟩)] w fun e w' => e = .returned (.tuple #[]) ∧ Sh W w' a N P ⟨0, 0, T⟩) :=
            Lib.hid (fun w t => (good_walk t.f).mono (fun e w' k => ⟨k.1, t.turn k.2⟩))
          have OK3 : Hid (FzOk N ⟨1, N, T + P⟩) := Lib.hid ⟨Nat.le_succ 1, by show N ≤ 1000; omega, (fun e => by cases e), hU.out⟩
          clear hz hv hs hi
          rcases hq with ⟨rfl, rfl⟩ | ⟨rfl, rfl⟩ <;> cases gd
          all_goals
            try unfold errF at HE
            go_wp2_with fail
            refine (CA.out a _ _ _ (T + P) _ HS.out OK.out (by omega) (by omega) HE.out HE2.out).mono ?_
            rintro e w4 ⟨rfl, t4⟩
            have H4 := Lib.hid t4
            clear t4 HS
            go_wp2_with fail
            refine (CS.out a _ _ 2 H4.out rfl).mono ?_
            rintro e w5 ⟨rfl, rfl⟩
            go_wp2_with fail
            first
              | (refine (CG.out _ H4.out).mono ?_
                 rintro e w5 ⟨rfl, t5⟩
                 have H5 := Lib.hid t5
                 clear t5 H4
                 go_wp2_with fail
                 refine (CS.out a _ _ 0 H5.out rfl).mono ?_
                 rintro e w6 ⟨rfl, rfl⟩
                 go_wp2_with fail
                 refine (CA.out a _ _ ⟨0, 0, T⟩ T .nilIface H5.out OKg.out (by omega) (by omega) (askV_yes (ask_0 hW.out).1) (ask_0 hW.out).2).mono ?_
                 rintro e w6 ⟨rfl, t6⟩
                 go_wp2_with fail
                 go_ret
                 exact ⟨rfl, t6.bel⟩)
              | (refine (CB.out a _ _ ⟨1, N, T + P⟩ (T + P) H4.out OK2.out (by omega) (by omega) (bad_2 hU.out)).mono ?_
                 rintro e w5 ⟨rfl, t5⟩
                 have H5 := Lib.hid t5
                 clear t5 H4
                 go_wp2_with fail
                 refine (CS.out a _ _ 1 H5.out rfl).mono ?_
                 rintro e w6 ⟨rfl, rfl⟩
                 go_wp2_with fail
                 refine (CA.out a _ _ ⟨1, N, T + P⟩ (T + P) (.iface 32 (.int .i64 9)) H5.out OK3.out (by omega) (by omega) (askV_no (ask_1n (by omega)).1) (ask_1n (by omega)).2).mono ?_
                 rintro e w6 ⟨rfl, t6⟩
                 have eqc := eql_codes
                 go_wp2_with fail
                 go_ret
                 exact ⟨rfl, t6.bel⟩)
        | succ g =>
          have x1 : i < K := by omega
          obtain ⟨d, hd⟩ : ∃ d, l[i]? = some d := ⟨l[i]'(by have := HK.out; omega), List.getElem?_eq_getElem _⟩
          obtain ⟨e0, e1⟩ := HF.out d (List.mem_of_getElem? hd)
          obtain ⟨b0, o, rfl, hat⟩ := HA.out.at hd
          have PC : Hid (∀ w s, Sh W w a N P s → w.cell? ⟨b0, o + i, none⟩ = some (.int .i64 d)) := Lib.hid (fun w s t => hat _ t.bel)
          have q0 := PC.out _ _ HS.out
          have HI := Lib.hid hi
          rcases hz with ⟨rfl, e⟩ | ⟨rfl, e⟩
          · rw [e.out] at HS
            by_cases hy : WiF d ∧ T + P ≤ d
            · have x2 : ¬ d < T + P := by omega
              obtain ⟨y1, y2⟩ := hy
              have E1 := Lib.hid (askV_yes (ask_1y (f := N) y1 y2).1)
              have E2 := Lib.hid (ask_1y (f := N) y1 y2).2
              clear hd hat hi e y1 y2
              go_wp2_with fail
              refine (CA.out a _ _ _ d _ HS.out OK1.out e0 e1 E1.out E2.out).mono ?_
              rintro e w4 ⟨rfl, t4⟩
              have q1 := PC.out _ _ t4
              have H4 := Lib.hid t4
              clear t4 HS
              go_wp2_with fail
              go_roundg g
              case rel => exact ⟨i + 1, 1, _, by have := HI.out; omega, by go_num, by go_num, .inr ⟨rfl, Lib.hid rfl⟩, H4⟩
              case measure => omega
            · have E1 := Lib.hid (askV_no (ask_1n (f := N) hy).1)
              have E2 := Lib.hid (ask_1n (f := N) hy).2
              unfold errF at E1
              clear hd hat hi e hy
              go_wp2_with fail
              refine (CA.out a _ _ _ d _ HS.out OK1.out e0 e1 E1.out E2.out).mono ?_
              rintro e w4 ⟨rfl, t4⟩
              have q1 := PC.out _ _ t4
              have H4 := Lib.hid t4
              clear t4 HS
              go_wp2_with fail
              go_roundg g
              case rel => exact ⟨i + 1, 0, _, by have := HI.out; omega, by go_num, by go_num, .inl ⟨rfl, Lib.hid rfl⟩, H4⟩
              case measure => omega
          · rw [e.out] at HS
            have E1 := Lib.hid (askV_no (ask_2 (f := N) (c := T) (p := P) (n := d)).1)
            have E2 := Lib.hid (ask_2 (f := N) (c := T) (p := P) (n := d)).2
            unfold errF at E1
            clear hd hat hi e
            go_wp2_with fail
            refine (CA.out a _ _ _ d _ HS.out OK2.out e0 e1 E1.out E2.out).mono ?_
            rintro e w4 ⟨rfl, t4⟩
            have q1 := PC.out _ _ t4
            have H4 := Lib.hid t4
            clear t4 HS
            go_wp2_with fail
            go_roundg g
            case rel => exact ⟨i + 1, 1, _, by have := HI.out; omega, by go_num, by go_num, .inr ⟨rfl, Lib.hid rfl⟩, H4⟩
            case measure => omega
    | succ g =>
      have x1 : i < N := by omega
      have S3 : Hid (Sh W wr a N P ⟨0, i, 0⟩) := Lib.hid (by have := HV.out.1 (by omega); rw [this] at HS; exact HS.out)
      have OK := Lib.hid (OK0.out i x1)
      obtain ⟨s', hs', hv'⟩ : ∃ s', badF N ⟨0, i, 0⟩ T = s' ∧ Hid ((i + 1 < N → s' = ⟨0, i + 1, 0⟩) ∧ (i + 1 = N → s' = ⟨1, N, T⟩)) := by
        rcases Nat.lt_or_ge (i + 1) N with y | y
        · exact ⟨_, bad_0 hW.out (by omega), Lib.hid ⟨fun _ => rfl, fun e => by omega⟩⟩
        · obtain rfl : N = i + 1 := by omega
          exact ⟨_, bad_0' hW.out (by omega), Lib.hid ⟨fun e => by omega, fun _ => rfl⟩⟩
      have HB := Lib.hid hs'
      have HI := Lib.hid hi
      clear HS HV hi hs'
      go_wp2_with fail
      refine (CS.out a _ _ 0 S3.out rfl).mono ?_
      rintro e w3 ⟨rfl, rfl⟩
      go_wp2_with fail
      refine (CA.out a _ _ ⟨0, i, 0⟩ T .nilIface S3.out OK.out (by omega) (by omega) (askV_yes (ask_0 hW.out).1) (ask_0 hW.out).2).mono ?_
      rintro e w4 ⟨rfl, t4⟩
      have H4 := Lib.hid t4
      clear t4 S3
      go_wp2_with fail
      refine (CB.out a _ _ s' T H4.out OK.out (by omega) (by omega) HB.out).mono ?_
      rintro e w5 ⟨rfl, t5⟩
      have H5 := Lib.hid t5
      clear t5 H4
      go_wp2_with fail
      go_roundg g
      case rel => exact ⟨i + 1, s', by have := HI.out; omega, by go_num, H5, hv'⟩
      case measure => omega
end Go.Proofs.Ytihloamiibelgaa
