/-
  Layer 24: the law SenderOrders.
-/
import Derived.Test.YtgeahpfdaehjaaaGreatDoorGrpP
namespace Go.Proofs.YtgeahpfdaehjaaaGreatDoor
open Go.ChangeShapes Go.WideShapes Go.ChangeAt Go.RowKit
set_option linter.unusedVariables false

section
variable {W : World}
set_option maxRecDepth 100000 in
theorem orders_far (n limit : Int) (A : Option Addr) (m cap : Nat) (hL : Laid W) (h : n < 0 ∨ (¬ n < 0 ∧ 30 < n) ∨ (¬ n < 0 ∧ ¬ 30 < n ∧ 200 < m)) :
    Calls Tryz.prog 4 #[.int .i64 n, .int .i64 limit, .slice A m cap] W (Holds W) := by
  have CU := Lib.hid (up_send W hL)
  clear hL
  rcases h with h | ⟨h, h2⟩ | ⟨h, h2, h3⟩
  all_goals
    try (have h4 : (200 : Int) < (m : Int) := by omega)
    go_enter Tryz.func4, Tryz.ntmps4
    go_wp2_with fail
    refine CU.out.mono ?_
    rintro e w1 ⟨rfl, b1⟩
    have C1 := Lib.hid (new_good w1 20000 (by omega) (by omega))
    have B1 := Lib.hid b1
    clear b1
    go_wp2_with fail
    refine C1.out.mono ?_
    rintro e w2 ⟨ad, F, rfl, _, b2, _⟩
    have B2 := Lib.hid (B1.out.trans (b2.mono B1.out.size))
    clear C1 b2
    go_wp2_with fail
    go_ret
    exact ⟨rfl, B2.out⟩
set_option maxRecDepth 100000 in
theorem orders_bad (n limit : Int) (A : Option Addr) (m cap : Nat) (hL : Laid W) (hn : ¬ n < 0 ∧ ¬ 30 < n) (hm : m ≤ 200) (hl : ¬ GoodB 1 limit) :
    Calls Tryz.prog 4 #[.int .i64 n, .int .i64 limit, .slice A m cap] W (Holds W) := by
  have CU := Lib.hid (up_send W hL)
  obtain ⟨h1, h2⟩ := hn
  have h4 : ¬ (200 : Int) < (m : Int) := by omega
  have HL := Lib.hid hL
  have CN := Lib.hid (fun w a => newZ_badB w a 1 limit 2 3 hl)
  clear hL hm hl
  go_enter Tryz.func4, Tryz.ntmps4
  go_wp2_with fail
  refine CU.out.mono ?_
  rintro e w1 ⟨rfl, b1⟩
  have C1 := Lib.hid (new_good w1 20000 (by omega) (by omega))
  have B1 := Lib.hid b1
  clear b1
  go_wp2_with fail
  refine C1.out.mono ?_
  rintro e w2 ⟨ad, F, rfl, d2, b2, hF⟩
  have C2 := Lib.hid (open24 ((HL.out.below B1.out).below b2) (B1.out.trans (b2.mono B1.out.size)) (fun g hg => by have := hF g hg; have := B1.out.size; omega) HL.out.n 20000 (by omega) d2)
  clear C1 d2 b2 hF
  go_wp2_with fail
  refine C2.out.mono ?_
  rintro e w3 ⟨sp, aj, K3, rfl, S3⟩
  have B3 := Lib.hid S3.2.2
  have C3 := Lib.hid (CN.out w3 ⟨sp, 0, none⟩)
  clear C2 S3 CN
  go_wp2_with fail
  refine C3.out.mono ?_
  rintro e w4 ⟨rfl, rfl⟩
  clear C3
  go_wp2_with fail
  go_ret
  exact ⟨rfl, B3.out⟩
end
/-- The bytes of such a batch, as a text. -/
def T5 (q : Nat) : ByteArray := ⟨(rc5 5 q).toArray⟩
theorem T5_ne {q : Nat} (hq : q < 128) : ¬ (T5 q).toList = [] := by
  unfold T5
  rw [rc5_eq hq (by omega)]
  simp
/-- What a sender that sends so is. -/
structure In5 (c : Nz) (n j q : Nat) (z : Zs) (L : ByteArray) : Prop where
  ok : ZOk c z
  nx : nxG z.G = (n : Nat)
  r : R5 5 z.G
  n : z.n ≤ j
  hd : z.head = (q : Nat)
  l : L = ⟨#[]⟩ ∨ L = T5 q
section
variable {c : Nz} {n j q : Nat} {z : Zs} {L : ByteArray}
theorem In5.same (h : In5 c n j q z L) : In5 c n (j + 1) q z L := ⟨h.ok, h.nx, h.r, by have := h.n; omega, h.hd, h.l⟩
theorem In5.came (h : In5 c n j q z L) (hl : z.head < nxG z.G) (now : Int) : In5 c n (j + 1) (q + 1) (cameZ c z now) ⟨#[]⟩ := by
  have hf : fsG z.G ≤ z.head + 1 := by have := h.ok.sp.h0; omega
  exact ⟨h.ok.came hl, (trim_clean z.G (z.head + 1) h.ok.sp.g.clean hf).2.2.1.trans h.nx, h.r.trim h.ok.sp.g.clean hf, Nat.zero_le _, by show z.head + 1 = _; rw [h.hd]; rfl, .inl rfl⟩
theorem In5.fail (h : In5 c n j q z L) {now : Int} (hw : WiF now) (jit : Int) : In5 c n (j + 1) q (failZ c z now jit) (T5 q) :=
  ⟨h.ok.fail hw, h.nx, h.r, Nat.succ_le_succ h.n, h.hd, .inr rfl⟩
/-- What was sent, as it is read. -/
def Got5 (w : World) (b o cap q : Nat) : Prop := w.cell? ⟨b, o, none⟩ = some (.int .u8 (q : Nat)) ∧ (convert 64 9 (.slice (some ⟨b, o, none⟩) 3 cap)).run Tryz.prog w = .ok (.string (T5 q)) w
theorem got5 {w : World} {A : Option Addr} {cap q : Nat} (hq : q < 128) (r : RdS w A cap (rc5 5 q)) : ∃ b o, A = some ⟨b, o, none⟩ ∧ Got5 w b o cap q := by
  have cv := rd_conv r
  have hl : (rc5 5 q).length = 3 := rc5_len hq (by omega)
  rw [hl] at cv
  obtain ⟨a, rfl⟩ := r.some_of (by omega)
  have k := r.rd a rfl 0 (UInt8.ofNat q) (by rw [rc5_eq hq (by omega)]; rfl)
  obtain ⟨b, o, sp⟩ := a
  have hsp := World.cell?_spot k
  simp only [Addr.add] at hsp k
  subst hsp
  refine ⟨b, o, rfl, ?_, cv⟩
  have hu : (UInt8.ofNat q).toNat = q := by simp; omega
  rw [hu] at k
  exact k
/-- A Try, one way or another. -/
theorem three5 (W : World) (x sp wb fb ad : Nat) (h : In5 c n j q z L) (hn : n ≤ 30) (hj : j ≤ 1000) (now out jit : Int) (j0 : -9223372036854775808 ≤ jit) (j1 : jit ≤ 9223372036854775807) :
    (∃ v, (v = .nilIface ∨ v = .iface 41 (.int .i64 1)) ∧ ∀ w K, Sq W w K x sp wb fb ad c z → Calls Tryz.prog 15 #[.pointer (some ⟨x, 0, none⟩), .int .i64 now, .int .i64 out, .int .i64 jit] w fun e w' => e = .returned (.tuple #[.slice none 0 0, .bool false, v]) ∧ Sq W w' K x sp wb fb ad c z) ∨
    (out = 0 ∧ q < 30 ∧ ¬ now < z.tk ∧ In5 c n (j + 1) (q + 1) (cameZ c z now) ⟨#[]⟩ ∧ ∀ w K, Sq W w K x sp wb fb ad c z → Calls Tryz.prog 15 #[.pointer (some ⟨x, 0, none⟩), .int .i64 now, .int .i64 out, .int .i64 jit] w fun e w' => ∃ b o cap K', e = .returned (.tuple #[.slice (some ⟨b, o, none⟩) 3 cap, .bool true, .nilIface]) ∧ Got5 w' b o cap q ∧ Sq W w' K' x sp wb fb ad c (cameZ c z now)) ∨
    (out ≠ 0 ∧ q < 30 ∧ ¬ now < z.tk ∧ In5 c n (j + 1) q (failZ c z now jit) (T5 q) ∧ ∀ w K, Sq W w K x sp wb fb ad c z → Calls Tryz.prog 15 #[.pointer (some ⟨x, 0, none⟩), .int .i64 now, .int .i64 out, .int .i64 jit] w fun e w' => ∃ b o cap K', e = .returned (.tuple #[.slice (some ⟨b, o, none⟩) 3 cap, .bool true, .nilIface]) ∧ Got5 w' b o cap q ∧ Sq W w' K' x sp wb fb ad c (failZ c z now jit)) := by
  have fin : ∀ {z' : Zs}, z.head < nxG z.G → ∀ e w', (∃ A cap K', e = Ending.returned (.tuple #[.slice A (headZ z).length cap, .bool true, .nilIface]) ∧ RdS w' A cap (headZ z) ∧ Sq W w' K' x sp wb fb ad c z') → ∃ b o cap K', e = Ending.returned (.tuple #[.slice (some ⟨b, o, none⟩) 3 cap, .bool true, .nilIface]) ∧ Got5 w' b o cap q ∧ Sq W w' K' x sp wb fb ad c z' := fun {z'} hl e w' ⟨A, cap, K', e1, r, s⟩ => by
    have hh := R5.head h.r h.ok hl
    have h1 := h.hd
    have h2 := h.nx
    have hq : q < 128 := by omega
    rw [h1] at hh
    rw [show headZ z = rc5 5 q from hh] at e1 r
    obtain ⟨b, o, rfl, g⟩ := got5 hq r
    rw [rc5_len hq (by omega)] at e1
    exact ⟨b, o, cap, K', e1, g, s⟩
  have hq : z.head < nxG z.G → q < 30 := fun hl => by have h1 := h.hd; have h2 := h.nx; omega
  rcases Sq.three W x sp wb fb ad h.ok (by have := h.n; omega) now out jit j0 j1 with ⟨v, hv, C⟩ | ⟨ho, hl, ht, C⟩ | ⟨ho, hl, ht, hw, C⟩
  · exact .inl ⟨v, hv, C⟩
  · exact .inr (.inl ⟨ho, hq hl, ht, h.came hl now, fun w K s => (C w K s).mono (fin hl)⟩)
  · exact .inr (.inr ⟨ho, hq hl, ht, h.fail hw jit, fun w K s => (C w K s).mono (fin hl)⟩)
end
set_option maxHeartbeats 8000000 in
set_option maxRecDepth 100000 in
theorem orders_walk (n : Nat) (limit : Int) (A : Option Addr) (cap : Nat) (l : List Qd) (W : World) (hL : Laid W) (hn : n ≤ 30) (hm : l.length ≤ 200) (hl : GoodB 1 limit) (hA : RdQd W A l) (hF : ∀ d ∈ l, FitQ d) :
    Calls Tryz.prog 4 #[.int .i64 (n : Nat), .int .i64 limit, .slice A l.length cap] W (Holds W) := by
  have CU := Lib.hid (up_send W hL)
  have x1 : ¬ (n : Int) < 0 := by omega
  have x2 : ¬ (30 : Int) < (n : Int) := by omega
  have HL := Lib.hid hL
  have HA := Lib.hid hA
  have HF := Lib.hid hF
  obtain ⟨N, hN⟩ : ∃ N, l.length = N := ⟨_, rfl⟩
  have HN := Lib.hid hN
  rw [hN] at hm ⊢
  have x3 : ¬ (200 : Int) < (N : Int) := by omega
  obtain ⟨c, hc⟩ : ∃ c : Nz, c = ⟨20000, 3, 100, 1, limit, 2, 3⟩ := ⟨_, rfl⟩
  have HC := Lib.hid hc
  have GB : Hid (GoodB c.b c.l) := Lib.hid (by rw [hc]; exact hl)
  have GF : Hid (GoodF c.f c.p) := Lib.hid (by rw [hc]; exact ⟨by dsimp only; omega, by dsimp only; omega, by dsimp only; omega, by dsimp only; omega⟩)
  clear hL hA hF hN hc hl
  go_enter Tryz.func4, Tryz.ntmps4
  go_wp2_with fail
  refine CU.out.mono ?_
  rintro e w1 ⟨rfl, b1⟩
  have C1 := Lib.hid (new_good w1 20000 (by omega) (by omega))
  have B1 := Lib.hid b1
  clear b1 CU
  go_wp2_with fail
  refine C1.out.mono ?_
  rintro e w2 ⟨ad, F, rfl, d2, b2, hF⟩
  have C2 := Lib.hid (open24 ((HL.out.below B1.out).below b2) (B1.out.trans (b2.mono B1.out.size)) (fun g hg => by have := hF g hg; have := B1.out.size; omega) HL.out.n 20000 (by omega) d2)
  clear C1 d2 b2 hF
  go_wp2_with fail
  refine C2.out.mono ?_
  rintro e w3 ⟨sp, aj, K3, rfl, S3⟩
  have C3 : Hid (Calls Tryz.prog 8 #[.pointer (some ⟨sp, 0, none⟩), .int .i64 1, .int .i64 limit, .int .i64 2, .int .i64 3] w3 fun e w' => ∃ x wb fb K, e = .returned (.tuple #[.pointer (some ⟨x, 0, none⟩), .nilIface]) ∧ Sq W w' K x sp wb fb ad c ⟨0, 0, Fz.new, 0, []⟩) := Lib.hid (by
    have gb := GB.out
    have gf := GF.out
    have := HC.out
    subst this
    refine (newZ_good (c := ⟨20000, 3, 100, 1, limit, 2, 3⟩) S3.1 gb gf).mono fun e w' ⟨x, wb, fb, K, e1, s, m⟩ => ?_
    obtain ⟨q1, q2⟩ := m.below S3.2.1 S3.2.2.size
    exact ⟨x, wb, fb, K, e1, s, q2, S3.2.2.trans q1⟩)
  clear C2 S3 B1
  go_wp2_with fail
  refine C3.out.mono ?_
  rintro e w4 ⟨x, wb, fb, K4, rfl, Q4⟩
  have Q4 := Lib.hid Q4
  have G4 : Hid (G5 c 5 0 []) := Lib.hid (by have := HC.out; subst this; exact G5.nil 5 (by dsimp only; omega) (by dsimp only; omega) (by dsimp only; omega))
  clear C3
  go_wp2_with fail
  go_loopg [14] n (fun g s14 wx => ∃ i K G, i + g = n ∧ s14 = .int .i64 (i : Nat) ∧ Hid (Sq W wx K x sp wb fb ad c ⟨0, 0, Fz.new, 0, G⟩) ∧ Hid (G5 c 5 i G))
  case atStart => exact ⟨0, K4, [], by omega, rfl, Q4, G4⟩
  case round =>
    clear Q4 G4
    obtain ⟨i, K, G, hi, rfl, HQ, HG⟩ := hrel
    cases gk with
    | succ g =>
      have z1 : decide ((i : Int) < (n : Int)) = true := decide_eq_true (by omega)
      have CP : Hid (Calls Tryz.prog 13 #[.pointer (some ⟨sp, 0, none⟩), .agg #[.int .i64 (i : Nat), .int .i64 5, .slice none 0 0]] wr fun e w' => e = .returned .nilIface ∧ ∃ K', Sq W w' K' x sp wb fb ad c ⟨0, 0, Fz.new, 0, putG c.many G (rc5 5 i)⟩) := Lib.hid (by
        have hq := HG.out.nx
        have hrm : c.rm = 20000 := by rw [HC.out]
        have hro : c.room = 100 := by rw [HC.out]
        exact HQ.out.put (b := bt5 5 i) HG.out.ok rfl (may_21 i (by omega) 5 (by omega)) (by show ((i : Nat) : Int) = nxG G; rw [hq]) (by show ¬ c.room ≤ nxG G - 0; rw [hq, hro]; omega) (by rw [show putL (bt5 5 i) = rc5 5 i from rfl, rc5_len (by omega) (by omega)]; omega) (HG.out.r.room HG.out.ok.g.clean (by omega) (by rw [hq]; omega) (by omega) (by rw [hq, hrm]; omega)))
      have NG : Hid (G5 c 5 (i + 1) (putG c.many G (rc5 5 i))) := Lib.hid (HG.out.put (by omega) (by omega) (by rw [HC.out]; show 4 * i + 4 ≤ 20000; omega))
      clear HQ HG
      go_wp2_with fail
      refine CP.out.mono ?_
      rintro e w5 ⟨rfl, K5, Q5⟩
      have Q5 := Lib.hid Q5
      clear CP
      go_wp2_with fail
      go_roundg g
      case rel => exact ⟨i + 1, K5, _, by omega, by go_num, Q5, NG⟩
      case measure => omega
    | zero =>
      have z1 : decide ((i : Int) < (n : Int)) = false := decide_eq_false (by omega)
      have z1n : ¬ i < n := by omega
      have I0 : Hid (In5 c n 0 0 ⟨0, 0, Fz.new, 0, G⟩ ⟨#[]⟩) := Lib.hid ⟨ZOk.new GB.out GF.out HG.out.ok, by have := HG.out.nx; rw [show n = i by omega]; exact this, HG.out.r, Nat.le_refl _, rfl, .inl rfl⟩
      clear HG hi
      go_wp2_with fail
      clear z1 z1n
      go_loopg [16, 17, 18] N (fun g s16 s17 s18 wx => ∃ j K z q L, j + g = N ∧ s16 = .int .i64 (q : Nat) ∧ s17 = .string L ∧ s18 = .int .i64 (j : Nat) ∧ Hid (Sq W wx K x sp wb fb ad c z) ∧ Hid (In5 c n j q z L))
      case atStart => exact ⟨0, K, ⟨0, 0, Fz.new, 0, G⟩, 0, ⟨#[]⟩, by omega, rfl, rfl, rfl, HQ, I0⟩
      case round =>
        clear HQ I0
        obtain ⟨j, K, z, q, L, hj, rfl, rfl, rfl, HQ, HI⟩ := hrel
        cases gk with
        | zero =>
          have z2 : decide ((j : Int) < (N : Int)) = false := decide_eq_false (by omega)
          have z2n : ¬ j < N := by omega
          have CL := HQ.out.len HI.out.ok.sp
          rw [HI.out.nx, HI.out.hd] at CL
          have CL := Lib.hid CL
          have BF := Lib.hid HQ.out.2.2
          have z4 : IntKind.i64.wrap ((n : Int) - (q : Int)) = (n : Int) - (q : Int) := IntWalk.i64_in _ (by have h1 := HI.out.ok.sp.h1; have h2 := HI.out.hd; rw [HI.out.nx] at h1; omega)
          clear HQ HI
          go_wp2_with fail
          refine CL.out.mono ?_
          rintro e w5 ⟨rfl, m5, rfl⟩
          go_wp2_with fail
          go_ret
          exact ⟨rfl, BF.out.trans ((below_drewN _ _).mono BF.out.size)⟩
        | succ g =>
          have hjN : j < N := by omega
          have z2 : decide ((j : Int) < (N : Int)) = true := decide_eq_true (by omega)
          obtain ⟨d, hd⟩ : ∃ d, l[j]? = some d := ⟨l[j]'(by have := HN.out; omega), List.getElem?_eq_getElem _⟩
          obtain ⟨t0, o0, j0⟩ := HF.out d (List.mem_of_getElem? hd)
          obtain ⟨bA, oA, rfl, hat⟩ := HA.out.at hd
          have PC := Lib.hid (fun wx (hx : Below W.heap.size W wx) => hat wx hx)
          have ps := PC.out _ HQ.out.2.2
          have CT := Lib.hid (at_walk HQ.out.1)
          have h3 := three5 W x sp wb fb ad HI.out hn (by omega) d.t d.o d.j j0.1 j0.2
          clear hat hd
          have C3x := h3
          clear h3
          rcases C3x with ⟨v, hv, C3⟩ | ⟨ho, hq, ht, NI, C3⟩ | ⟨ho, hq, ht, NI, C3⟩
          · have C3 := Lib.hid C3
            have NI := Lib.hid HI.out.same
            have HV := Lib.hid hv
            clear HI hv
            generalize z.tk = tk at *
            go_wp2_with fail
            refine CT.out.mono ?_
            rintro e w5 ⟨rfl, rfl⟩
            clear CT
            go_wp2_with fail
            go_region_held (fun w' => w'.cell? ⟨bA, oA + j * 4, none⟩ = some (.bool d.p) ∧ w'.cell? ⟨bA, oA + j * 4 + 1, none⟩ = some (.int .i64 d.t) ∧ w'.cell? ⟨bA, oA + j * 4 + 2, none⟩ = some (.int .i64 d.o) ∧ w'.cell? ⟨bA, oA + j * 4 + 3, none⟩ = some (.int .i64 d.j))
              (first | exact ps | assumption)
              (first
                  | (go_at_call 15; refine (C3.out _ _ (HQ.out.still (by exact ⟨rfl, rfl, rfl, Nat.le_refl _, fun _ _ => rfl⟩))).mono ?_; rintro e w6 ⟨rfl, q6⟩; have s6 := PC.out _ q6.2.2; have Q6 := Lib.hid q6; clear q6))
            all_goals
              clear C3 ps HQ s6
              rcases HV.out with rfl | rfl
              all_goals
                go_wp2_with fail
                go_roundg g
                case rel => exact ⟨j + 1, K, z, q, L, by omega, rfl, rfl, by go_num, Q6, NI⟩
                case measure => omega
          · have C3 := Lib.hid C3
            have NI := Lib.hid NI
            have HLs := Lib.hid HI.out.l
            have HT := Lib.hid (T5_ne (q := q) (by omega))
            have HO := Lib.hid ho
            clear HI ho
            generalize z.tk = tk at *
            go_wp2_with fail
            refine CT.out.mono ?_
            rintro e w5 ⟨rfl, rfl⟩
            clear CT
            go_wp2_with fail
            go_region_held (fun w' => w'.cell? ⟨bA, oA + j * 4, none⟩ = some (.bool d.p) ∧ w'.cell? ⟨bA, oA + j * 4 + 1, none⟩ = some (.int .i64 d.t) ∧ w'.cell? ⟨bA, oA + j * 4 + 2, none⟩ = some (.int .i64 d.o) ∧ w'.cell? ⟨bA, oA + j * 4 + 3, none⟩ = some (.int .i64 d.j))
              (first | exact ps | assumption)
              (first
                  | (go_at_call 15; refine (C3.out _ _ (HQ.out.still (by exact ⟨rfl, rfl, rfl, Nat.le_refl _, fun _ _ => rfl⟩))).mono ?_; rintro e w6 ⟨bB, oB, cap6, K6, rfl, g6, q6⟩; have s6 := PC.out _ q6.2.2; have Q6 := Lib.hid q6; have G6 := Lib.hid g6; clear q6 g6))
            all_goals
              clear C3 ps HQ
              obtain ⟨_, s61, s62, _⟩ := s6
              obtain ⟨k6, cv⟩ := G6.out
              have ho := HO.out
              have z5 : IntKind.i64.wrap ((q : Int) + 1) = (q : Int) + 1 := IntWalk.i64_in _ (by omega)
              have z6 : ((q : Int) == (q : Int)) = true := by simp
              rcases HLs.out with hL | hL
              · subst hL
                go_wp2_with fail
                go_roundg g
                case rel => exact ⟨j + 1, K6, _, q + 1, ⟨#[]⟩, by omega, by go_num, rfl, by go_num, Q6, NI⟩
                case measure => omega
              · subst hL
                have t3 := HT.out
                go_wp2_with fail
                go_roundg g
                case rel => exact ⟨j + 1, K6, _, q + 1, ⟨#[]⟩, by omega, by go_num, rfl, by go_num, Q6, NI⟩
                case measure => omega
          · have C3 := Lib.hid C3
            have NI := Lib.hid NI
            have HLs := Lib.hid HI.out.l
            have HT := Lib.hid (T5_ne (q := q) (by omega))
            have zo : (d.o == 0) = false := beq_eq_false_iff_ne.2 ho
            clear HI
            generalize z.tk = tk at *
            go_wp2_with fail
            refine CT.out.mono ?_
            rintro e w5 ⟨rfl, rfl⟩
            clear CT
            go_wp2_with fail
            go_region_held (fun w' => w'.cell? ⟨bA, oA + j * 4, none⟩ = some (.bool d.p) ∧ w'.cell? ⟨bA, oA + j * 4 + 1, none⟩ = some (.int .i64 d.t) ∧ w'.cell? ⟨bA, oA + j * 4 + 2, none⟩ = some (.int .i64 d.o) ∧ w'.cell? ⟨bA, oA + j * 4 + 3, none⟩ = some (.int .i64 d.j))
              (first | exact ps | assumption)
              (first
                  | (go_at_call 15; refine (C3.out _ _ (HQ.out.still (by exact ⟨rfl, rfl, rfl, Nat.le_refl _, fun _ _ => rfl⟩))).mono ?_; rintro e w6 ⟨bB, oB, cap6, K6, rfl, g6, q6⟩; have s6 := PC.out _ q6.2.2; have Q6 := Lib.hid q6; have G6 := Lib.hid g6; clear q6 g6))
            all_goals
              clear C3 ps HQ
              obtain ⟨_, s61, s62, _⟩ := s6
              obtain ⟨k6, cv⟩ := G6.out
              have z5 : IntKind.i64.wrap ((q : Int) + 1) = (q : Int) + 1 := IntWalk.i64_in _ (by omega)
              have z6 : ((q : Int) == (q : Int)) = true := by simp
              rcases HLs.out with hL | hL
              · subst hL
                go_wp2_with fail
                go_roundg g
                case rel => exact ⟨j + 1, K6, _, q, T5 q, by omega, rfl, rfl, by go_num, Q6, NI⟩
                case measure => omega
              · subst hL
                have t3 := HT.out
                go_wp2_with fail
                go_roundg g
                case rel => exact ⟨j + 1, K6, _, q, T5 q, by omega, rfl, rfl, by go_num, Q6, NI⟩
                case measure => omega
end Go.Proofs.YtgeahpfdaehjaaaGreatDoor
