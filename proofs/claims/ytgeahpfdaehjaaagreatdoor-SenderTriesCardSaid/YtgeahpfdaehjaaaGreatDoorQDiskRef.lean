/-
  The document's disk: At, Used, there, Sync, Cut, Remove, Read, Crash, Append.
-/
import Derived.Test.YtgeahpfdaehjaaaGreatDoorQDiskRefMem
import Derived.LoopTactic
import Derived.Deep.LoopGhost
namespace Go.Proofs.YtgeahpfdaehjaaaGreatDoor
open Go.ChangeShapes Go.WideShapes Go.ChangeAt Go.RowKit
set_option linter.unusedVariables false

theorem split_at {L : List Pt} {k : Nat} {p : Pt} (h : L[k]? = some p) : L = L.take k ++ p :: L.drop (k + 1) ∧ (L.take k).length = k := by
  have hl := (List.getElem?_eq_some_iff.1 h).1
  rw [List.getElem?_eq_getElem hl] at h
  cases h
  refine ⟨?_, by rw [List.length_take]; omega⟩
  rw [← List.drop_eq_getElem_cons hl, List.take_append_drop]
theorem RfB.idx {w : World} {m rm : Nat} {dn : Bool} {A : Option Addr} {cap : Nat} {L : List Pt} (h : RfB w m rm dn A cap L) {k : Nat} {p : Pt} (hk : L[k]? = some p) :
    ∃ g, A = some ⟨g, 0, none⟩ ∧ w.cell? ⟨g, k * 3, none⟩ = some (.int .i64 p.n) ∧ w.cell? ⟨g, k * 3 + 1, none⟩ = some (.string ⟨p.b.toArray⟩) ∧ w.cell? ⟨g, k * 3 + 2, none⟩ = some (.int .i64 (p.s : Nat)) ∧ (∀ o, w.frozen? ⟨g, o, none⟩ = false) := by
  obtain ⟨e, hl⟩ := split_at hk
  rw [e] at h
  have := h.at
  rw [hl] at this
  exact this
theorem refAt_has (w : World) (m rm : Nat) (dn : Bool) (A : Option Addr) (cap : Nat) (L : List Pt) (n : Int) (i : Nat) (p : Pt) (h : RfB w m rm dn A cap L) (hl : L.length ≤ 1000) (hi : L[i]? = some p) (hp : p.n = n) (hx : ∀ j q, j < i → L[j]? = some q → q.n ≠ n) :
    Calls Tryz.prog 88 #[.pointer (some ⟨m, 0, none⟩), .int .i64 n] w fun e w' => e = .returned (.int .i64 (i : Nat)) ∧ w' = w := by
  have c1 := h.c1
  have hil := (List.getElem?_eq_some_iff.1 hi).1
  have HL := Lib.hid h
  have HX := Lib.hid hx
  have HI := Lib.hid hi
  clear h hx hi
  go_enter Tryz.func88, Tryz.ntmps88
  go_wp2_with fail
  go_loop [5] (fun s => ∃ k : Nat, k ≤ i ∧ s = .int .i64 k) (fun s => i - (intOf s).toNat)
  case atStart => exact ⟨0, Nat.zero_le _, rfl⟩
  case round =>
    obtain ⟨k, hk, rfl⟩ := hrel
    have hkl : k < L.length := by omega
    have x1 : decide ((k : Int) < (L.length : Int)) = true := decide_eq_true (by omega)
    obtain ⟨q, hq⟩ : ∃ q, L[k]? = some q := ⟨L[k], List.getElem?_eq_getElem hkl⟩
    obtain ⟨g, rfl, d0, _, _, _⟩ := HL.out.idx hq
    rcases Nat.lt_or_ge k i with hlt | hge
    · have hne := HX.out k q hlt hq
      have x2 : (q.n == n) = false := beq_eq_false_iff_ne.2 hne
      clear hq
      go_wp2_with fail
      go_round
      case rel => exact ⟨k + 1, by omega, by go_num⟩
      case measure => simp [intOf]; omega
    · obtain rfl : k = i := by omega
      have hqp : q = p := by have := HI.out; rw [hq] at this; exact Option.some.inj this
      subst hqp
      clear hq
      go_wp2_with fail
      go_ret
      exact ⟨rfl, rfl⟩
theorem refAt_no (w : World) (m rm : Nat) (dn : Bool) (A : Option Addr) (cap : Nat) (L : List Pt) (n : Int) (h : RfB w m rm dn A cap L) (hl : L.length ≤ 1000) (hx : ∀ p ∈ L, p.n ≠ n) :
    Calls Tryz.prog 88 #[.pointer (some ⟨m, 0, none⟩), .int .i64 n] w fun e w' => e = .returned (.int .i64 (-1)) ∧ w' = w := by
  have c1 := h.c1
  have HL := Lib.hid h
  have HX := Lib.hid hx
  clear h hx
  go_enter Tryz.func88, Tryz.ntmps88
  go_wp2_with fail
  go_loop [5] (fun s => ∃ k : Nat, k ≤ L.length ∧ s = .int .i64 k) (fun s => L.length - (intOf s).toNat)
  case atStart => exact ⟨0, Nat.zero_le _, rfl⟩
  case round =>
    obtain ⟨k, hk, rfl⟩ := hrel
    rcases Nat.lt_or_ge k L.length with hkl | hge
    · have x1 : decide ((k : Int) < (L.length : Int)) = true := decide_eq_true (by omega)
      obtain ⟨q, hq⟩ : ∃ q, L[k]? = some q := ⟨L[k], List.getElem?_eq_getElem hkl⟩
      obtain ⟨g, rfl, d0, _, _, _⟩ := HL.out.idx hq
      have hne := HX.out q (List.mem_of_getElem? hq)
      have x2 : (q.n == n) = false := beq_eq_false_iff_ne.2 hne
      clear hq
      go_wp2_with fail
      go_round
      case rel => exact ⟨k + 1, by omega, by go_num⟩
      case measure => simp [intOf]; omega
    · have x1 : decide ((k : Int) < (L.length : Int)) = false := decide_eq_false (by omega)
      go_wp2_with fail
      go_ret
      exact ⟨rfl, rfl⟩
theorem used_take {L : List Pt} {k : Nat} {p : Pt} (h : L[k]? = some p) : used (L.take (k + 1)) = used (L.take k) + p.b.length := by
  rw [List.take_add_one, h, Option.toList_some, used_app]
  rfl
theorem used_le (L : List Pt) (k : Nat) : used (L.take k) ≤ used L := by
  have := used_app (L.take k) (L.drop k)
  rw [List.take_append_drop] at this
  omega
theorem refUsed (w : World) (m rm : Nat) (dn : Bool) (A : Option Addr) (cap : Nat) (L : List Pt) (h : RfB w m rm dn A cap L) (hl : L.length ≤ 1000) (hu : used L ≤ 1000000) :
    Calls Tryz.prog 87 #[.pointer (some ⟨m, 0, none⟩)] w fun e w' => e = .returned (.int .i64 (used L : Nat)) ∧ w' = w := by
  have c1 := h.c1
  have HL := Lib.hid h
  clear h
  go_enter Tryz.func87, Tryz.ntmps87
  go_wp2_with fail
  go_loop [3, 4] (fun u s => ∃ k : Nat, k ≤ L.length ∧ s = .int .i64 k ∧ u = .int .i64 (used (L.take k) : Nat)) (fun u s => L.length - (intOf s).toNat)
  case atStart => exact ⟨0, Nat.zero_le _, rfl, rfl⟩
  case round =>
    obtain ⟨k, hk, rfl, rfl⟩ := hrel
    rcases Nat.lt_or_ge k L.length with hkl | hge
    · have x1 : decide ((k : Int) < (L.length : Int)) = true := decide_eq_true (by omega)
      obtain ⟨q, hq⟩ : ∃ q, L[k]? = some q := ⟨L[k], List.getElem?_eq_getElem hkl⟩
      obtain ⟨g, rfl, _, d1, _, _⟩ := HL.out.idx hq
      have hut := Lib.hid (used_take hq)
      have h1 := used_le L (k + 1)
      have h2 := used_le L k
      obtain ⟨u, hu'⟩ : ∃ u, used (L.take k) = u := ⟨_, rfl⟩
      have hql : q.b.length ≤ 1000000 := by have := hut.out; omega
      rw [hu'] at h2 hut ⊢
      clear hq hu' h1
      go_wp2_with fail
      go_round
      case rel => exact ⟨k + 1, by omega, by go_num, by rw [hut.out]; go_num⟩
      case measure => simp [intOf]; omega
    · have x1 : decide ((k : Int) < (L.length : Int)) = false := decide_eq_false (by omega)
      rw [List.take_of_length_le (by omega)]
      go_wp2_with fail
      go_ret
      exact ⟨rfl, rfl⟩

/-- there, whatever it is asked. -/
theorem refThere (w : World) (m rm : Nat) (dn : Bool) (A : Option Addr) (cap : Nat) (L : List Pt) (n : Int) (h : RfB w m rm dn A cap L) (hl : L.length ≤ 1000) (hr : Rises L) :
    missC dn L n ≠ 0 ∧ Calls Tryz.prog 89 #[.pointer (some ⟨m, 0, none⟩), .int .i64 n] w (fun e w' => e = .returned (.tuple #[.int .i64 (-1), .int .i64 (missC dn L n : Nat)]) ∧ w' = w) ∨
    dn = false ∧ ∃ x q y, L = x ++ q :: y ∧ q.n = n ∧ (∀ p ∈ x, p.n < n) ∧ (∀ p ∈ y, n < p.n) ∧
      Calls Tryz.prog 89 #[.pointer (some ⟨m, 0, none⟩), .int .i64 n] w (fun e w' => e = .returned (.tuple #[.int .i64 (x.length : Nat), .int .i64 0]) ∧ w' = w) := by
  have c2 := h.c2
  cases dn with
  | true =>
    refine .inl ⟨by simp [missC], ?_⟩
    rw [show missC true L n = 10 from rfl]
    clear h
    go_enter Tryz.func89, Tryz.ntmps89
    go_wp2_with fail
    go_ret2
    exact ⟨rfl, rfl⟩
  | false =>
    have hs := split n L hr
    cases hs with
    | has x q y hq hx hy =>
      refine .inr ⟨rfl, x, q, y, rfl, hq, hx, hy, ?_⟩
      have CA := Lib.hid (refAt_has w m rm false A cap _ n x.length q h hl (by simp) hq (fun j p hj hp => by
        have := hx p (by
          rw [List.getElem?_append_left hj] at hp
          exact List.mem_of_getElem? hp)
        omega))
      have hxl : x.length ≤ 1000 := by rw [List.length_append] at hl; omega
      clear h
      go_enter Tryz.func89, Tryz.ntmps89
      go_wp2_with fail
      refine CA.out.mono ?_
      rintro e w' ⟨rfl, rfl⟩
      go_wp2_with fail
      go_ret2
      exact ⟨rfl, rfl⟩
    | no x y hx hy =>
      rw [miss_none (find_no hx hy)]
      refine .inl ⟨by omega, ?_⟩
      have CA := Lib.hid (refAt_no w m rm false A cap _ n h hl (fun p hp => by
        rcases List.mem_append.1 hp with h1 | h1
        · have := hx p h1; omega
        · have := hy p h1; omega))
      clear h
      go_enter Tryz.func89, Tryz.ntmps89
      go_wp2_with fail
      refine CA.out.mono ?_
      rintro e w' ⟨rfl, rfl⟩
      go_wp2_with fail
      go_ret2
      exact ⟨rfl, rfl⟩
def RefOps (w : World) (G : Nat → Prop) (m rm : Nat) (dn : Bool) (r : Nat × List Pt) (e : Ending) (w' : World) : Prop :=
  e = .returned (.int .i64 (r.1 : Nat)) ∧ ∃ G', Rfd w' G' m rm dn r.2 ∧ Mv8 w G w' G'
theorem part_at {x y : List Pt} {q : Pt} : (x ++ q :: y)[x.length]? = some q := by simp
theorem Mv8.put {w w' : World} {G : Nat → Prop} {m : Nat} {A : Option Addr} (hG : ∀ g, G g ↔ footR m A g) (k : Keeps (footR m A) w w') : Mv8 w G w' G := ⟨k.wide (fun g hg _ => (hG g).2 hg), fun g hg => .inl hg⟩
set_option maxRecDepth 100000 in
theorem refSync (w : World) (G : Nat → Prop) (m rm : Nat) (dn : Bool) (L : List Pt) (n : Int) (h : Rfd w G m rm dn L) (hi : Inv rm L) (hl : L.length ≤ 1000) :
    Calls Tryz.prog 64 #[.pointer (some ⟨m, 0, none⟩), .int .i64 n] w (RefOps w G m rm dn (opSync dn L n)) := by
  obtain ⟨A, cap, hd, hG⟩ := h
  rcases refThere w m rm dn A cap L n hd hl hi.rise with ⟨hc, hC⟩ | ⟨rfl, x, q, y, rfl, hq, hx, hy, hC⟩
  · unfold opSync
    rw [if_neg hc]
    have HD : Hid (Rfd w G m rm dn L) := Lib.hid ⟨A, cap, hd, hG⟩
    have HC := Lib.hid hC
    have x1 : (((missC dn L n : Nat) : Int) == 0) = false := beq_eq_false_iff_ne.2 (by omega)
    generalize missC dn L n = c at *
    clear hd hG hi hC
    go_enter Tryz.func64, Tryz.ntmps64
    go_wp2_with fail
    refine HC.out.mono ?_
    rintro e w' ⟨rfl, rfl⟩
    go_wp2_with fail
    go_ret
    exact ⟨rfl, G, HD.out, Mv8.still (Below.refl _ _)⟩
  · unfold opSync
    rw [if_pos (miss_some (find_has hq hx)), upd_has hq hx]
    obtain ⟨g, rfl, d0, d1, d2, df⟩ := hd.at
    have c1 := hd.c1
    have f2 := df (x.length * 3 + 2)
    have HC := Lib.hid hC
    have HD := Lib.hid hd
    have HG := Lib.hid hG
    have hxl : x.length < (x ++ q :: y).length := by simp
    obtain ⟨N, hN⟩ : ∃ N, (x ++ q :: y).length = N := ⟨_, rfl⟩
    rw [hN] at c1 hxl hl
    have hql : q.b.length ≤ 1000000 := by have := hi.fits; have := hi.room; have := used_mem (p := q) (l := x ++ q :: y) (by simp); omega
    clear hd hG hi hC df hN
    go_enter Tryz.func64, Tryz.ntmps64
    go_wp2_with fail
    refine HC.out.mono ?_
    rintro e w' ⟨rfl, rfl⟩
    go_wp2_with fail
    go_region
    all_goals go_wp2_with fail
    all_goals go_ret
    exact ⟨rfl, G, ⟨some ⟨g, 0, none⟩, cap, (HD.out.put (j := 2) (q := syncP n (some q)) (by omega) rfl).drew, HG.out⟩, Mv8.put HG.out (((Keeps.refl _ _).set _ _ (.inl (.inr ⟨_, rfl, rfl⟩))).drew)⟩
theorem str_take (b : List UInt8) (k : Nat) (hk : k ≤ b.length) (w : World) : (Instr.slice 9 (.string ⟨b.toArray⟩) none (some (.int .i64 (k : Int))) none).run Tryz.prog w = .ok (.string ⟨(b.take k).toArray⟩) w := by
  have hsz : (⟨b.toArray⟩ : ByteArray).size = b.length := by simp [ByteArray.size]
  rw [run_slice_string_h (P := Tryz.prog) (w := w) (t := 9) (s := ⟨b.toArray⟩) Tryz.underlying9 .i64 (k : Int) (by omega) (by rw [hsz]; omega)]
  congr 2
  apply ByteArray.ext
  rw [ByteArray.data_extract]
  simp
end Go.Proofs.YtgeahpfdaehjaaaGreatDoor
