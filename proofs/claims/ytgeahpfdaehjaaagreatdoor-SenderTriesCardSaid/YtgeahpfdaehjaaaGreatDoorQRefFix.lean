/-
  The document's disk: Sync and Append of a part that is there, the row of parts where it was.
-/
import Derived.Test.YtgeahpfdaehjaaaGreatDoorQDiskRef4
namespace Go.Proofs.YtgeahpfdaehjaaaGreatDoor
open Go.ChangeShapes Go.WideShapes Go.ChangeAt Go.RowKit
set_option linter.unusedVariables false

set_option maxRecDepth 100000 in
theorem refSyncA (w : World) (m rm : Nat) (A : Option Addr) (cap : Nat) (x y : List Pt) (q : Pt) (n : Int) (hd : RfB w m rm false A cap (x ++ q :: y)) (hi : Inv rm (x ++ q :: y)) (hl : (x ++ q :: y).length ≤ 1000) (hq : q.n = n) :
    Calls Tryz.prog 64 #[.pointer (some ⟨m, 0, none⟩), .int .i64 n] w fun e w' => e = .returned (.int .i64 0) ∧ RfB w' m rm false A cap (x ++ syncP n (some q) :: y) ∧ Keeps (footR m A) w w' := by
  have hC : Calls Tryz.prog 89 #[.pointer (some ⟨m, 0, none⟩), .int .i64 n] w (fun e w' => e = .returned (.tuple #[.int .i64 (x.length : Nat), .int .i64 0]) ∧ w' = w) := by
    have hm := hi.rise.mid
    rcases refThere w m rm false A cap (x ++ q :: y) n hd hl hi.rise with ⟨hc, _⟩ | ⟨_, x', q', y', e, hq', hx', hy', hC⟩
    · exact absurd (miss_some (find_has hq (fun p hp => by rw [← hq]; exact hm.1 p hp))) hc
    · have hxx : x.length = x'.length := by
        have hx : ∀ p ∈ x, p.n < n := fun p hp => by rw [← hq]; exact hm.1 p hp
        rcases Nat.lt_trichotomy x.length x'.length with h | h | h
        · have h1 : (x ++ q :: y)[x.length]? = some q := by simp
          rw [e, List.getElem?_append_left h] at h1
          have := hx' q (List.mem_of_getElem? h1)
          omega
        · exact h
        · have h1 : (x' ++ q' :: y')[x'.length]? = some q' := by simp
          rw [← e, List.getElem?_append_left h] at h1
          have := hx q' (List.mem_of_getElem? h1)
          omega
      rw [hxx]
      exact hC
  obtain ⟨g, rfl, d0, d1, d2, df⟩ := hd.at
  have c1 := hd.c1
  have f2 := df (x.length * 3 + 2)
  have HC := Lib.hid hC
  have HD := Lib.hid hd
  have hxl : x.length < (x ++ q :: y).length := by simp
  obtain ⟨N, hN⟩ : ∃ N, (x ++ q :: y).length = N := ⟨_, rfl⟩
  rw [hN] at c1 hxl hl
  have hql : q.b.length ≤ 1000000 := by have := hi.fits; have := hi.room; have := used_mem (p := q) (l := x ++ q :: y) (by simp); omega
  clear hd hi hC df hN
  go_enter Tryz.func64, Tryz.ntmps64
  go_wp2_with fail
  refine HC.out.mono ?_
  rintro e w' ⟨rfl, rfl⟩
  go_wp2_with fail
  go_region
  all_goals go_wp2_with fail
  all_goals go_ret
  exact ⟨rfl, (HD.out.put (j := 2) (q := syncP n (some q)) (by omega) rfl).drew, (((Keeps.refl _ _).set _ _ (.inl (.inr ⟨_, rfl, rfl⟩))).drew)⟩
set_option maxRecDepth 100000 in
set_option maxHeartbeats 2000000 in
theorem refAppendA (w : World) (m rm us : Nat) (A : Option Addr) (cap : Nat) (x y : List Pt) (q : Pt) (n : Int) (bs : List UInt8) (h : RfB w m rm false A cap (x ++ q :: y)) (hl : (x ++ q :: y).length ≤ 1000) (hU : Hid (used (x ++ q :: y) = us)) (hn : 0 ≤ n) (hu : us ≤ rm) (hr : rm ≤ 65536) (hf : bs.length ≤ rm - us)
    (hq : q.n = n) (hx : ∀ p ∈ x, p.n < n) :
    Calls Tryz.prog 63 #[.pointer (some ⟨m, 0, none⟩), .int .i64 n, .string ⟨bs.toArray⟩] w fun e w' => e = .returned (.int .i64 0) ∧ RfB w' m rm false A cap (x ++ ⟨q.n, q.b ++ bs, q.s⟩ :: y) ∧ Keeps (footR m A) w w' := by
  have c0 := h.c0
  have c2 := h.c2
  have c1 := h.c1
  have lm := h.lt
  have hn' : ¬ n < 0 := by omega
  have hql : q.b.length ≤ us := by rw [← hU.out]; exact used_mem (by simp)
  have CU : Hid (∀ k, Calls Tryz.prog 87 #[.pointer (some ⟨m, 0, none⟩)] (w.drewN k) fun e w' => e = .returned (.int .i64 (us : Nat)) ∧ w' = w.drewN k) := Lib.hid (fun k => by
    have := refUsed (w.drewN k) m rm false A cap _ (h.drewN k) hl (by rw [hU.out]; omega)
    rw [hU.out] at this
    exact this)
  have CA : Hid (∀ k, Calls Tryz.prog 88 #[.pointer (some ⟨m, 0, none⟩), .int .i64 n] (w.drewN k) fun e w' => e = .returned (.int .i64 (x.length : Nat)) ∧ w' = w.drewN k) := Lib.hid (fun k => refAt_has (w.drewN k) m rm false A cap _ n x.length q (h.drewN k) hl (by simp) hq (fun j p hj hp => by
        have := hx p (by
          rw [List.getElem?_append_left hj] at hp
          exact List.mem_of_getElem? hp)
        omega))
  have hd : decide ((rm : Int) - us < bs.length) = false := decide_eq_false (by omega)
  have hxl : x.length < (x ++ q :: y).length := by simp
  obtain ⟨g, rfl, _, d1, _, df⟩ := h.at
  have f1 := df (x.length * 3 + 1)
  have HD := Lib.hid h
  obtain ⟨N, hN⟩ : ∃ N, (x ++ q :: y).length = N := ⟨_, rfl⟩
  rw [hN] at c1 hxl hl
  obtain ⟨cb, hcb⟩ : ∃ cb, q.b ++ bs = cb := ⟨_, rfl⟩
  have HCB := Lib.hid hcb
  have ecat : (⟨q.b.toArray⟩ : ByteArray) ++ ⟨bs.toArray⟩ = ⟨cb.toArray⟩ := by rw [← hcb]; exact ba_cat _ _
  rw [hcb]
  clear h df hN hx hcb
  go_enter Tryz.func63, Tryz.ntmps63
  go_wp2_with fail
  go_quiet ((go_at_call 87; exact Calls.quiet_of_same (CU.out _)))
  all_goals go_wp2_with fail
  refine (CA.out _).mono ?_
  rintro e w' ⟨rfl, rfl⟩
  have HD1 := Lib.hid (HD.out.drewN nq)
  have HK1 := Lib.hid ((Keeps.refl (footR m (some ⟨g, 0, none⟩)) w).drewN nq)
  have d1U : (w.drewN nq).cell? ⟨g, x.length * 3 + 1, none⟩ = some (.string ⟨q.b.toArray⟩) := d1
  have c1U : (w.drewN nq).cell? ⟨m, 1, none⟩ = some (.slice (some ⟨g, 0, none⟩) N cap) := c1
  have f1U : (w.drewN nq).frozen? ⟨g, x.length * 3 + 1, none⟩ = false := f1
  clear d1 c1 f1 c0 c2 CU CA hd HD
  generalize w.drewN nq = U at HD1 HK1 d1U c1U f1U ⊢
  go_wp2_with fail
  go_region
  all_goals go_wp2_with fail
  all_goals go_ret
  have D2 := (HD1.out.put (j := 1) (u := .string ⟨cb.toArray⟩) (q := ⟨q.n, cb, q.s⟩) (by omega) rfl).drew
  exact ⟨rfl, D2, ((HK1.out.set ⟨g, x.length * 3 + 1, none⟩ (.string ⟨cb.toArray⟩) (.inl (.inr ⟨_, rfl, rfl⟩))).drew)⟩
end Go.Proofs.YtgeahpfdaehjaaaGreatDoor
