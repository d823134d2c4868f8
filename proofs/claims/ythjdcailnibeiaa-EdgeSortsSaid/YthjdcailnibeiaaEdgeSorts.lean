/-
  Layer 2's law on sorting, walked: it is true at every list, and turns nothing that was there.
-/
import Derived.Test.YthjdcailnibeiaaSortsKit
import Derived.Test.YthjdcailnibeiaaEdgeBest
namespace Go.Proofs.Ythjdcailnibeiaa
open Go.ChangeShapes Go.WideShapes Go.ChangeAt Go.RowKit
set_option linter.unusedVariables false

theorem edgeSorts_far (A : Option Addr) (n cap : Nat) (w : World) (hn : 100 < n) (hl : n ≤ 9223372036854775807) :
    Calls Try.prog 5 #[.slice A n cap] w (Holds w) := by
  go_enter Try.func5, Try.ntmps5
  go_wp2_with ((go_at_call 7; refine (up_any _).mono ?_); rintro e w' ⟨rfl, hB⟩)
  go_ret
  exact ⟨rfl, hB⟩

/-- What Sort comes to, wherever its memory lies. -/
theorem sort_any (A : Option Addr) (d : Array UInt64) (cap : Nat) (w : World) (hr : RdF w A d) (hA : ∀ ad, A = some ad → 0 < d.size → ad.block < w.heap.size) (hsz : d.size ≤ 1000000) :
    Calls Try.prog 16 #[.slice A d.size cap] w (fun e w' => ∃ (aS : Addr) (d' : Array UInt64), e = .returned (.slice (some aS) d.size d.size) ∧ Go.Sort.PermIn 0 d.size d d' ∧ Go.Sort.SortedIn ltF 0 d.size d' ∧ RdF w' (some aS) d' ∧ Below w.heap.size w w') :=
  (sort_walk A d cap w hr hA hsz).mono fun _ _ ⟨d', he, h1, h2, h3, h4⟩ => ⟨_, d', he, h1, h2, h3, h4⟩

set_option maxHeartbeats 8000000 in
set_option maxRecDepth 100000 in
theorem edgeSorts_walk (A : Option Addr) (d : Array UInt64) (cap : Nat) (w : World) (hl : d.size ≤ 9223372036854775807) (hr : RdF w A d) (hA : ∀ ad, A = some ad → 0 < d.size → ad.block < w.heap.size) :
    Calls Try.prog 5 #[.slice A d.size cap] w (Holds w) := by
  by_cases h2 : 100 < d.size
  · exact edgeSorts_far A _ cap w h2 hl
  have mixed := insLays.mixed
  have h2z : decide ((100 : Int) < (d.size : Int)) = false := decide_eq_false (by omega)
  have hsm : d.size ≤ 100 := by omega
  have HR := Lib.hid hr
  have HA := Lib.hid hA
  clear hr hA h2
  go_enter Try.func5, Try.ntmps5
  go_upto_region 4 with ((go_at_call 7; refine (up_any _).mono ?_); rintro e w1 ⟨rfl, hB1⟩)
  have hB2 : Below w.heap.size w (w1.alloc (.cells #[] 22)) := hB1.alloc hB1.size _
  obtain ⟨aO, capO, W3, hap, hO, hOb, hB3⟩ := append_new (w1.alloc (.cells #[] 22)) w1.heap.size A d cap (RdF.below HR.out HA.out hB2) hsm (by simp)
  have hB4 : Below w.heap.size w W3 := hB2.trans (hB3.mono (by simp; have := hB1.size; omega))
  have C := Lib.hid (sort_any (some aO) d capO W3 hO (fun ad h _ => by cases h; exact hOb) (by omega))
  have HO := Lib.hid hO
  have HOb := Lib.hid hOb
  have HB4 := Lib.hid hB4
  clear hB1 hB2 hB3 hB4 hO hOb
  have HAP := Lib.hid hap
  clear hap
  go_wp2_with (first | (at_builtin; refine wpList_append_run rfl (.tmp 14) (.tmp 15) 25 rfl _ _ _ rfl rfl HAP.out ?_) | ((go_at_call 16; refine C.out.mono ?_); rintro e w4 ⟨aS, d', rfl, hP, hS, hR, hB5⟩))
  have T0 : Aside (Three w A aO aS d d' w4) := ⟨RdF.below HR.out HA.out (HB4.out.trans (hB5.mono HB4.out.size)), RdF.below HO.out (fun ad h _ => by cases h; exact HOb.out) hB5, hR, HB4.out.trans (hB5.mono HB4.out.size)⟩
  have HP := Lib.hid hP
  have HS := Lib.hid hS
  have hz' : d'.size = d.size := hP.1
  clear hP hS hR hB5 C HAP
  go_loopg [6] d.size (fun g vi wr => ∃ i : Nat, vi = .int .i64 i ∧ i ≤ d.size ∧ d.size - i ≤ g ∧ Aside (Three w A aO aS d d' wr))
  case atStart => exact ⟨0, rfl, Nat.zero_le _, by omega, T0⟩
  case round =>
    clear T0
    obtain ⟨i, rfl, hin, hg, T⟩ := hrel
    by_cases hlt : i < d.size
    · have hltz : (i : Int) < (d.size : Int) := by omega
      obtain ⟨aL, rfl, _⟩ := T.out.l i hlt
      obtain ⟨x, hx⟩ : ∃ x, d[i]!.toNat = x := ⟨_, rfl⟩
      have hx64 : x < 18446744073709551616 := by rw [← hx]; exact lt64 _
      have HX := Lib.hid hx
      clear hx
      go_upto_region 11 with fail
      go_cut [55] from 30 to 55 (fun v wx => v = .bool false ∧ Aside (Three w (some aL) aO aS d d' wx))
      case first =>
        obtain ⟨y, hy⟩ : ∃ y, d'[i]!.toNat = y := ⟨_, rfl⟩
        have hy64 : y < 18446744073709551616 := by rw [← hy]; exact lt64 _
        have lo := Three.cl T.out.o i hlt HX.out
        have ll := Three.cl T.out.l i hlt HX.out
        have ls := Three.cl T.out.s i (by omega) hy
        have c1 := fun w => Lib.hid (same_walk x x w hx64 hx64)
        rw [alike_self] at c1
        have HY := Lib.hid hy
        clear hy
        have hi0 : 0 < i ∨ ¬ 0 < i := by omega
        rcases hi0 with hi0 | hi0
        · have hi0z : (0 : Int) < (i : Int) := by omega
          have hi0d : decide ((0 : Int) < (i : Int)) = true := decide_eq_true hi0z
          have hi0d' : decide ((i : Int) > 0) = true := decide_eq_true hi0z
          obtain ⟨q, hq⟩ : ∃ q, q + 1 = i := ⟨i - 1, by omega⟩
          have rb : IntKind.i64.wrap ((i : Int) - 1) = (q : Int) := by rw [IntKind.wrap_i64]; omega
          have bq : (q : Int) < (d.size : Int) := by omega
          obtain ⟨p, hp⟩ : ∃ p, d'[q]!.toNat = p := ⟨_, rfl⟩
          have lq := Three.cl T.out.s q (by omega) hp
          have c2 := fun w => Lib.hid (refLess_walk y p w hy64 (by rw [← hp]; exact lt64 _))
          have hord : ahead y p = false := by rw [← hp, ← HY.out]; exact HS.out q i (Nat.zero_le _) (by omega) hlt
          rw [hord] at c2
          have HQ := Lib.hid hq
          clear hord hp hq
          go_quiet_grown (first | (go_at_call 15; refine Calls.grown_of (bools_grown (c1 _).out)) | (go_at_call 9; refine Calls.grown_of (bools_grown (c2 _).out)))
          have T2 : Aside (Three w (some aL) aO aS d d' (Go.Sort.grow (wr.drewN nq) osq)) := T.out.grown nq osq
          generalize Go.Sort.grow (wr.drewN nq) osq = w2 at T2 ⊢
          clear lo ll ls lq c1 c2
          go_wp2
          go_meet
          case rel => exact ⟨rfl, T2⟩
        · obtain rfl : i = 0 := by omega
          have e0 : ∀ a : Addr, a.add 0 = a := fun a => by unfold Addr.add; simp
          rw [e0] at lo ll
          have lo0 : wr.cell? aO = some (.float .f64 x) := by have := lo 0 #[]; rw [Go.Sort.grow_empty] at this; exact this
          have ll0 : wr.cell? aL = some (.float .f64 x) := by have := ll 0 #[]; rw [Go.Sort.grow_empty] at this; exact this
          clear lo ll ls e0
          go_big_quiet (first | (go_at_call 15; refine (c1 _).out.mono ?_; rintro e w' ⟨rfl, rfl⟩; exact ⟨rfl, _, rfl⟩))
          have T2 : Aside (Three w (some aL) aO aS d d' (wr.drewN nq)) := by have := T.out.grown nq #[]; rw [Go.Sort.grow_empty] at this; exact this
          generalize wr.drewN nq = w2 at T2 ⊢
          clear lo0 ll0 c1
          go_wp2
          go_meet
          case rel => exact ⟨rfl, T2⟩
      case rest =>
        clear T
        obtain ⟨rfl, T2⟩ := hcut
        go_wp2
        go_loopg [7, 8] d.size (fun g vn vk wr => ∃ (k : Nat) (z : Int), vn = .int .i64 z ∧ vk = .int .i64 k ∧ k ≤ d.size ∧ d.size - k ≤ g ∧ -(k : Int) ≤ z ∧ z ≤ k ∧ Hid (z = cnt d x k - cnt d' x k) ∧ Aside (Three w (some aL) aO aS d d' wr))
        case atStart => exact ⟨0, 0, rfl, rfl, Nat.zero_le _, by omega, by simp, by simp, by show (0 : Int) = 0 - 0; rfl, T2⟩
        case round =>
          clear T2
          obtain ⟨k, z, rfl, rfl, hkn, hg2, hz1, hz2, HZ, T⟩ := hrel
          by_cases hkl : k < d.size
          · have hklz : (k : Int) < (d.size : Int) := by omega
            obtain ⟨u, hu⟩ : ∃ u, d[k]!.toNat = u := ⟨_, rfl⟩
            obtain ⟨v, hv⟩ : ∃ v, d'[k]!.toNat = v := ⟨_, rfl⟩
            have c3 := fun w => Lib.hid (same_walk u x w (by rw [← hu]; exact lt64 _) hx64)
            have c4 := fun w => Lib.hid (same_walk v x w (by rw [← hv]; exact lt64 _) hx64)
            have zp : IntKind.i64.wrap (z + 1) = z + 1 := by rw [IntKind.wrap_i64]; omega
            have zm : IntKind.i64.wrap (z - 1) = z - 1 := by rw [IntKind.wrap_i64]; omega
            have zq : IntKind.i64.wrap (z + 1 - 1) = z := by rw [IntKind.wrap_i64]; omega
            have HF : Hid (z + (if alike u x = true then 1 else 0) - (if alike v x = true then 1 else 0) = cnt d x (k + 1) - cnt d' x (k + 1)) := by
              have h := HZ.out
              show _ = (cnt d x k + _) - (cnt d' x k + _)
              rw [hu, hv]
              omega
            have lk := Three.cl T.out.l k hkl hu
            have li := Three.cl T.out.l i hlt HX.out
            have HV := Lib.hid hv
            clear hu hv HZ
            generalize alike u x = b1 at c3 HF
            generalize alike v x = b2 at c4 HF
            go_wp2_with fail
            go_quiet_grown (first | (go_at_call 15; refine Calls.grown_of (bools_grown (c3 _).out)))
            have T3 : Aside (Three w (some aL) aO aS d d' (Go.Sort.grow (wr.drewN nq) osq)) := T.out.grown nq osq
            clear lk li c3 T
            generalize Go.Sort.grow (wr.drewN nq) osq = w3 at T3 ⊢
            clear nq osq
            cases b1
            all_goals
              have lk := Three.cl T3.out.s k (by omega) HV.out
              have li := Three.cl T3.out.l i hlt HX.out
              go_wp2_with fail
              go_quiet_grown (first | (go_at_call 15; refine Calls.grown_of (bools_grown (c4 _).out)))
              have T4 : Aside (Three w (some aL) aO aS d d' (Go.Sort.grow (w3.drewN nq) osq)) := T3.out.grown nq osq
              clear lk li c4 T3
              generalize Go.Sort.grow (w3.drewN nq) osq = w4' at T4 ⊢
              clear nq osq
              cases b2
              all_goals
                go_wp2
                go_roundg (gk - 1)
                case measure => omega
                case rel => exact ⟨k + 1, _, rfl, by go_num, by omega, by omega, by omega, by omega, by have := HF.out; simp at this; show _ = _; omega, T4⟩
          · have hklz : ¬ (k : Int) < (d.size : Int) := by omega
            obtain rfl : k = d.size := by omega
            obtain rfl : z = 0 := by have := HZ.out; have := cnt_perm HP.out x; omega
            go_wp2
            go_roundg (d.size - (i + 1))
            case measure => omega
            case rel => exact ⟨i + 1, by go_num, by omega, Nat.le_refl _, T⟩
    · have hltz : ¬ (i : Int) < (d.size : Int) := by omega
      go_wp2
      go_ret
      exact ⟨rfl, T.out.b⟩
end Go.Proofs.Ythjdcailnibeiaa
