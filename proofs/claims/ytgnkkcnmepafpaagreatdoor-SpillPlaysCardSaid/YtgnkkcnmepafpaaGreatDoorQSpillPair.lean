/-
  Layer 21: what is done with both spills, and what is asked of both.
-/
import Derived.Test.YtgnkkcnmepafpaaGreatDoorQSpillTwo
namespace Go.Proofs.YtgnkkcnmepafpaaGreatDoor
open Go.ChangeShapes Go.WideShapes Go.ChangeAt Go.RowKit
set_option linter.unusedVariables false

section
variable {W w w' : World} {K M : Nat → Prop} {sp ad ms mj m rm : Nat} {many room head n : Int} {G : List Sg}
/-- What an Ack comes to. -/
def ackC (head : Int) (G : List Sg) (n : Int) : Nat := if head < nxG G ∧ n = head then 0 else 7
def ackH (head : Int) (G : List Sg) (n : Int) : Int := if ackC head G n = 0 then head + 1 else head
def ackG (head : Int) (G : List Sg) (n : Int) : List Sg := if ackC head G n = 0 then trimG G (head + 1) else G
theorem ackC_le (head : Int) (G : List Sg) (n : Int) : ackC head G n ≤ 10 := by unfold ackC; split <;> omega
theorem ack_yes (h : head < nxG G ∧ n = head) : ackC head G n = 0 ∧ ackH head G n = head + 1 ∧ ackG head G n = trimG G (head + 1) := by
  have e : ackC head G n = 0 := by unfold ackC; rw [if_pos h]
  exact ⟨e, by unfold ackH; rw [if_pos e], by unfold ackG; rw [if_pos e]⟩
theorem ack_no (h : ¬ (head < nxG G ∧ n = head)) : ackC head G n = 7 ∧ ackH head G n = head ∧ ackG head G n = G := by
  have e : ackC head G n = 7 := by unfold ackC; rw [if_neg h]
  exact ⟨e, by unfold ackH; rw [if_neg (by rw [e]; omega)], by unfold ackG; rw [if_neg (by rw [e]; omega)]⟩
theorem SOk.ackS (ok : SOk rm many room head G) : SOk rm many room (ackH head G n) (ackG head G n) ∧ (ackG head G n).length ≤ G.length ∧ nxG (ackG head G n) = nxG G := by
  by_cases h : head < nxG G ∧ n = head
  · obtain ⟨_, e2, e3⟩ := ack_yes h
    rw [e2, e3]
    exact ⟨ok.ack h.1, trim_le _ _, (trim_clean G (head + 1) ok.g.clean (by have := ok.h0; omega)).2.2.1⟩
  · obtain ⟨_, e2, e3⟩ := ack_no h
    rw [e2, e3]
    exact ⟨ok, Nat.le_refl _, rfl⟩
theorem ackP (h : PSp sp ad rm many room head G w K) (ok : SOk rm many room head G) :
    Calls Tryz.prog 16 #[.pointer (some ⟨sp, 0, none⟩), .int .i64 n] w fun e w' => e = .returned (ErrV (ackC head G n)) ∧ ∃ K', PSp sp ad rm many room (ackH head G n) (ackG head G n) w' K' ∧ Mv8 w K w' K' := by
  obtain ⟨aj, h⟩ := h
  by_cases hc : head < nxG G ∧ n = head
  · obtain ⟨e1, e2, e3⟩ := ack_yes hc
    rw [e1, e2, e3, hc.2]
    exact (ackS_ok h ok hc.1).mono fun e w' ⟨h1, K', h2, h3⟩ => ⟨h1, K', ⟨aj, h2⟩, h3⟩
  · obtain ⟨e1, e2, e3⟩ := ack_no hc
    rw [e1, e2, e3]
    have fin : ∀ e w', (e = Ending.returned (.iface 45 (.int .i64 7)) ∧ Below w.heap.size w w') → e = .returned (ErrV 7) ∧ ∃ K', PSp sp ad rm many room head G w' K' ∧ Mv8 w K w' K' := fun e w' ⟨h1, h2⟩ => ⟨h1, K, ⟨aj, h.below h2⟩, Mv8.still h2⟩
    by_cases hn : head < nxG G
    · exact (ackS_other h ok n hn (fun e => hc ⟨hn, e⟩)).mono fin
    · exact (ackS_none h ok n (by have := ok.h1; omega)).mono fin
theorem ackQ (h : QSp ms mj m rm false many room head (pts' G) w M) (ok : SOk rm many room head G) :
    Calls Tryz.prog 17 #[.pointer (some ⟨ms, 0, none⟩), .int .i64 n] w fun e w' => e = .returned (.int .i64 (ackC head G n : Nat)) ∧ ∃ M', QSp ms mj m rm false many room (ackH head G n) (pts' (ackG head G n)) w' M' ∧ Mv8 w M w' M' := by
  by_cases hc : head < nxG G ∧ n = head
  · obtain ⟨e1, e2, e3⟩ := ack_yes hc
    rw [e1, e2, e3, hc.2]
    exact rs_ack_ok h ok.g hc.1 (by have := ok.bds; omega)
  · obtain ⟨e1, e2, e3⟩ := ack_no hc
    rw [e1, e2, e3]
    have fin : ∀ e w', (e = Ending.returned (.int .i64 7) ∧ Below w.heap.size w w') → e = .returned (.int .i64 (7 : Nat)) ∧ ∃ M', QSp ms mj m rm false many room head (pts' G) w' M' ∧ Mv8 w M w' M' := fun e w' ⟨h1, h2⟩ => ⟨h1, M, h.below h2, Mv8.still h2⟩
    by_cases hn : head < nxG G
    · exact (rs_ack_other h ok.g n hn (fun e => hc ⟨hn, e⟩)).mono fin
    · exact (rs_ack_none h ok.g n (by have := ok.h1; omega)).mono fin
/-! ### a block of the law's own beside the document's -/
def QG (x : Nat) (o : Obj) (Q : Side) : Side := fun w M => ∃ M0, Q w M0 ∧ w.heap[x]? = some o ∧ ¬ M0 x ∧ ∀ g, M g ↔ M0 g ∨ g = x
theorem QG.closed {x : Nat} {o : Obj} {Q : Side} (c : Closed Q) : Closed (QG x o Q) where
  keeps := fun ⟨M0, h1, h2, h3, h4⟩ k hF hg => ⟨M0, c.keeps h1 k (fun g hm => hF g ((h4 g).2 (.inl hm))) hg, keeps_out k h2 (hF x ((h4 x).2 (.inr rfl))), h3, h4⟩
  lt := fun ⟨M0, h1, h2, h3, h4⟩ g hg => by
    rcases (h4 g).1 hg with e | rfl
    · exact c.lt h1 g e
    · exact lt_of_block h2
theorem QG.call {x : Nat} {o : Obj} {Q Q' : Side} {E : Ending → Prop} {f : FuncId} {args : Array Value} (h : QG x o Q w M) (hc : ∀ M0, Q w M0 → Calls Tryz.prog f args w fun e w' => E e ∧ ∃ M', Q' w' M' ∧ Mv8 w M0 w' M') :
    Calls Tryz.prog f args w fun e w' => E e ∧ ∃ M', QG x o Q' w' M' ∧ Mv8 w M w' M' := by
  obtain ⟨M0, h1, h2, h3, h4⟩ := h
  refine (hc M0 h1).mono ?_
  rintro e w' ⟨he, M', q, mv⟩
  have hl := lt_of_block h2
  refine ⟨he, fun g => M' g ∨ g = x, ⟨M', q, keeps_out mv.keeps h2 h3, fun hx => ?_, fun g => Iff.rfl⟩, mv.keeps.wide (fun g hg _ => (h4 g).2 (.inl hg)), fun g hg => ?_⟩
  · rcases mv.own x hx with e | e
    · exact h3 e
    · omega
  · rcases hg with e | rfl
    · rcases mv.own g e with e | e
      · exact .inl ((h4 g).2 (.inl e))
      · exact .inr e
    · exact .inl ((h4 g).2 (.inr rfl))
/-- A block laid just now. -/
theorem Two.guest {P Q : Side} {c : Array Value} {t : TypeId} (h : Two W w P Q) (cP : Closed P) (cQ : Closed Q) : Two W (w.alloc (.cells c t)) P (QG w.heap.size (.cells c t (0, 0)) Q) := by
  obtain ⟨K, M, h1, h2, h3, h4, h5, h6, h7⟩ := h
  have hb : Below w.heap.size w (w.alloc (.cells c t)) := (Below.refl _ w).alloc (Nat.le_refl _) _
  have k := Keeps.of_below hb (Nat.le_refl _) (fun _ => False)
  refine ⟨K, fun g => M g ∨ g = w.heap.size, cP.keeps h1 k (fun _ _ e => e) (fun _ e => e.elim), ⟨M, cQ.keeps h2 k (fun _ _ e => e) (fun _ e => e.elim), heap_alloc_new w _, fun e => by have := cQ.lt h2 _ e; omega, fun g => Iff.rfl⟩, fun g hg hm => ?_, h4, fun g hg => ?_, h6.trans (hb.mono h6.size), h7⟩
  · rcases hm with e | rfl
    · exact h3 g hg e
    · have := cP.lt h1 _ hg; omega
  · rcases hg with e | rfl
    · exact h5 g e
    · exact h6.size
theorem Two.drop {P Q : Side} {x : Nat} {o : Obj} (h : Two W w P (QG x o Q)) : Two W w P Q := by
  obtain ⟨K, M, h1, ⟨M0, q1, q2, q3, q4⟩, h3, h4, h5, h6, h7⟩ := h
  exact ⟨K, M0, h1, q1, fun g hg hm => h3 g hg ((q4 g).2 (.inl hm)), h4, fun g hg => h5 g ((q4 g).2 (.inl hg)), h6, h7⟩
theorem Two.block {P Q : Side} {x : Nat} {o : Obj} (h : Two W w P (QG x o Q)) : w.heap[x]? = some o := by
  obtain ⟨K, M, _, ⟨_, _, q2, _⟩, _⟩ := h
  exact q2
/-! ### what is asked of both -/
/-- What Head and Front tell. -/
theorem heads (ok : SOk rm many room head G) : ∃ (b : Bt) (r : Rc) (is : Bool), (is = true → b.seq = head) ∧ r.length ≤ 4096 ∧
    (∀ w K, PSp sp ad rm many room head G w K → Calls Tryz.prog 20 #[.pointer (some ⟨sp, 0, none⟩)] w fun e w' => ∃ B c A cap, e = .returned (.tuple #[btVal b.seq b.start B b.rows.length c, .slice A r.length cap, .bool is]) ∧ RdS w' A cap r ∧ Below w.heap.size w w') ∧
    (∀ w M, QSp ms mj m rm false many room head (pts' G) w M → Calls Tryz.prog 21 #[.pointer (some ⟨ms, 0, none⟩)] w fun e w' => e = .returned (.tuple #[.string ⟨r.toArray⟩, .bool is]) ∧ Below w.heap.size w w') := by
  by_cases hl : head < nxG G
  · obtain ⟨k, r, b, hk, hr, hn, hb, hs⟩ := ok.at hl
    refine ⟨b, r, true, fun _ => hs, hr, fun w K h => ?_, fun w M h => rs_front h ok.g hk hn⟩
    obtain ⟨aj, h⟩ := h
    refine (headS h ok hk hr hn hb hs).mono ?_
    rintro e w' ⟨B, c, A, cap, rfl, _, rd, bl⟩
    exact ⟨B, c, A, cap, rfl, rd, bl⟩
  · have hn : head = nxG G := by have := ok.h1; omega
    refine ⟨⟨0, 0, []⟩, [], false, (fun e => by cases e), (by simp), fun w K h => ?_, fun w M h => rs_front_none h ok.g hn⟩
    obtain ⟨aj, h⟩ := h
    refine (headS_none h ok hn).mono ?_
    rintro e w' ⟨rfl, bl⟩
    exact ⟨none, 0, none, 0, rfl, RdS.nil _, bl⟩
/-- The document's pointers, and its head. -/
def Cs21 (w : World) (ms mj m : Nat) (head : Int) : Prop := w.cell? ⟨ms, 0, none⟩ = some (.pointer (some ⟨mj, 0, none⟩)) ∧ w.cell? ⟨ms, 2, none⟩ = some (.int .i64 head) ∧ w.cell? ⟨mj, 0, none⟩ = some (.pointer (some ⟨m, 0, none⟩))
theorem Two.cs {P : Side} {dn : Bool} {L : List Pt} (h : Two W w P (QSp ms mj m rm dn many room head L)) : Cs21 w ms mj m head := by
  obtain ⟨K, M, _, q, _⟩ := h
  obtain ⟨H, j⟩ := q.jn
  exact ⟨q.c0, q.c2, j.c0⟩
section
variable {Z : World} (h : Two W Z (PSp sp ad rm many room head G) (QSp ms mj m rm false many room head (pts' G))) (ok : SOk rm many room head G)
include h
theorem ask_at (wx : World) (hx : Below Z.heap.size Z wx) : Two W wx (PSp sp ad rm many room head G) (QSp ms mj m rm false many room head (pts' G)) := h.still (PSp.closed _ _ _ _ _ _ _) (QSp.closed _ _ _ _ _ _ _ _ _) hx
include ok
theorem ask_len (wx : World) (hx : Below Z.heap.size Z wx) : Calls Tryz.prog 22 #[.pointer (some ⟨sp, 0, none⟩)] wx fun e w' => e = .returned (.int .i64 (nxG G - head)) ∧ Below Z.heap.size Z w' ∧ Cs21 w' ms mj m head := by
  obtain ⟨K, M, ⟨aj, p⟩, _⟩ := ask_at h wx hx
  refine (lenS p ok).mono ?_
  rintro e w' ⟨h1, q, rfl⟩
  have hb := hx.trans ((below_drewN wx q).mono hx.size)
  exact ⟨h1, hb, (ask_at h _ hb).cs⟩
theorem ask_next (wx : World) (hx : Below Z.heap.size Z wx) : Calls Tryz.prog 24 #[.pointer (some ⟨sp, 0, none⟩)] wx fun e w' => e = .returned (.int .i64 (nxG G)) ∧ Below Z.heap.size Z w' ∧ Cs21 w' ms mj m head := by
  obtain ⟨K, M, ⟨aj, p⟩, _⟩ := ask_at h wx hx
  refine (nextS p ok.g).mono ?_
  rintro e w' ⟨h1, q, rfl⟩
  have hb := hx.trans ((below_drewN wx q).mono hx.size)
  exact ⟨h1, hb, (ask_at h _ hb).cs⟩
theorem ask_nextR (wx : World) (hx : Below Z.heap.size Z wx) : Calls Tryz.prog 23 #[.pointer (some ⟨ms, 0, none⟩)] wx fun e w' => e = .returned (.int .i64 (nxG G)) ∧ Below Z.heap.size Z w' ∧ Cs21 w' ms mj m head := by
  obtain ⟨K, M, _, q, _⟩ := ask_at h wx hx
  refine (rs_next q ok.g).mono ?_
  rintro e w' ⟨h1, h2⟩
  have hb := hx.trans (h2.mono hx.size)
  exact ⟨h1, hb, (ask_at h _ hb).cs⟩
omit ok in
theorem ask_used (wx : World) (hx : Below Z.heap.size Z wx) : Calls Tryz.prog 25 #[.pointer (some ⟨ad, 0, none⟩)] wx fun e w' => e = .returned (.int .i64 (used (pts' G) : Nat)) ∧ Below Z.heap.size Z w' ∧ Cs21 w' ms mj m head := by
  have hT := ask_at h wx hx
  obtain ⟨K, M, ⟨aj, p⟩, _⟩ := id hT
  obtain ⟨FF, j, _⟩ := p.ex
  obtain ⟨F, d⟩ := j.dsk0
  refine (used_walk wx F ad rm false (pts' G) d).mono ?_
  rintro e w' ⟨h1, rfl⟩
  exact ⟨h1, hx, hT.cs⟩
theorem ask_usedR (wx : World) (hx : Below Z.heap.size Z wx) : Calls Tryz.prog 26 #[.pointer (some ⟨m, 0, none⟩)] wx fun e w' => e = .returned (.int .i64 (used (pts' G) : Nat)) ∧ Below Z.heap.size Z w' ∧ Cs21 w' ms mj m head := by
  have hT := ask_at h wx hx
  obtain ⟨K, M, _, q, _⟩ := id hT
  obtain ⟨H, j⟩ := q.jn
  obtain ⟨A, cap, hb, _⟩ := j.ref
  refine (refUsed wx m rm false A cap (pts' G) hb ok.g.plen (by have := ok.g.used; omega)).mono ?_
  rintro e w' ⟨h1, rfl⟩
  exact ⟨h1, hx, hT.cs⟩
end
end
end Go.Proofs.YtgnkkcnmepafpaaGreatDoor
