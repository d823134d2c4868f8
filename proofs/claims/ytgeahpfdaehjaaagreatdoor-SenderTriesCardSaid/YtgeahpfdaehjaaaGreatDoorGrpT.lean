/-
  Layer 21 (spill): the law's deeds, a list of structs that hold a batch each, that is handed in.
  Layer 21: the program's spill and the document's side by side.
  Layer 21: what is done with both spills, and what is asked of both.
-/
import Derived.Test.YtgeahpfdaehjaaaGreatDoorGrpJ
import Derived.Test.YtgeahpfdaehjaaaGreatDoorQRefSpill4
namespace Go.Proofs.YtgeahpfdaehjaaaGreatDoor
open Go.ChangeShapes Go.WideShapes Go.ChangeAt Go.RowKit Go.Deep
set_option linter.unusedVariables false

/-- A deed. -/
structure DeedS where
  what : Int
  n : Int
  b : Bt
def InS (x : Int) : Prop := -9223372036854775808 ≤ x ∧ x ≤ 9223372036854775807
structure FitS (t : DeedS) : Prop where
  what : InS t.what
  n : InS t.n
  wide : WideR t.b.rows
  fit : ∀ r ∈ t.b.rows, FitR r
def deedS (t : DeedS) (B : Option Addr) (c : Nat) : List Value := [.int .i64 t.what, .int .i64 t.n, .int .i64 t.b.seq, .int .i64 t.b.start, .slice B t.b.rows.length c]
/-- Deeds that were handed in. -/
def RdDS (w : World) (A : Option Addr) (l : List DeedS) : Prop := l = [] ∨ ∃ b o, A = some ⟨b, o, none⟩ ∧ ∀ (i : Nat) (t : DeedS), l[i]? = some t → ∃ B c, (∀ j, j < 5 → w.cell? ⟨b, o + i * 5 + j, none⟩ = (deedS t B c)[j]?) ∧ RdR w B t.b.rows
theorem RdDS.at {w : World} {A : Option Addr} {l : List DeedS} (h : RdDS w A l) {i : Nat} {t : DeedS} (hi : l[i]? = some t) :
    ∃ b o B c, A = some ⟨b, o, none⟩ ∧ ∀ w', Below w.heap.size w w' → w'.cell? ⟨b, o + i * 5, none⟩ = some (.int .i64 t.what) ∧ w'.cell? ⟨b, o + i * 5 + 1, none⟩ = some (.int .i64 t.n) ∧ w'.cell? ⟨b, o + i * 5 + 2, none⟩ = some (.int .i64 t.b.seq) ∧ w'.cell? ⟨b, o + i * 5 + 3, none⟩ = some (.int .i64 t.b.start) ∧ w'.cell? ⟨b, o + i * 5 + 4, none⟩ = some (.slice B t.b.rows.length c) ∧ RdR w' B t.b.rows := by
  rcases h with rfl | ⟨b, o, e, hc⟩
  · simp at hi
  · obtain ⟨B, c, hj, hr⟩ := hc i t hi
    refine ⟨b, o, B, c, e, fun w' hb => ?_⟩
    have h0 : w.cell? ⟨b, o + i * 5, none⟩ = some (.int .i64 t.what) := hj 0 (by omega)
    have h1 : w.cell? ⟨b, o + i * 5 + 1, none⟩ = some (.int .i64 t.n) := hj 1 (by omega)
    have h2 : w.cell? ⟨b, o + i * 5 + 2, none⟩ = some (.int .i64 t.b.seq) := hj 2 (by omega)
    have h3 : w.cell? ⟨b, o + i * 5 + 3, none⟩ = some (.int .i64 t.b.start) := hj 3 (by omega)
    have h4 : w.cell? ⟨b, o + i * 5 + 4, none⟩ = some (.slice B t.b.rows.length c) := hj 4 (by omega)
    have hl := World.block_lt_of_cell? w _ h0
    exact ⟨by rw [hb.cell (p := ⟨b, o + i * 5, none⟩) hl]; exact h0, by rw [hb.cell (p := ⟨b, o + i * 5 + 1, none⟩) hl]; exact h1, by rw [hb.cell (p := ⟨b, o + i * 5 + 2, none⟩) hl]; exact h2, by rw [hb.cell (p := ⟨b, o + i * 5 + 3, none⟩) hl]; exact h3, by rw [hb.cell (p := ⟨b, o + i * 5 + 4, none⟩) hl]; exact h4, hr.below hb (Nat.le_refl _)⟩
section
variable {H : Type} {enc : TypeId × Value → H} {W : World}
end
end Go.Proofs.YtgeahpfdaehjaaaGreatDoor
namespace Go.Proofs.YtgeahpfdaehjaaaGreatDoor
open Go.ChangeShapes Go.WideShapes Go.ChangeAt Go.RowKit
set_option linter.unusedVariables false

/-- A thing with blocks of its own. -/
abbrev Side := World → (Nat → Prop) → Prop
/-- It stays where its blocks stay. -/
structure Closed (P : Side) : Prop where
  keeps : ∀ {w w' : World} {K F : Nat → Prop}, P w K → Keeps F w w' → (∀ g, K g → ¬ F g) → (∀ g, F g → 6 ≤ g) → P w' K
  lt : ∀ {w : World} {K : Nat → Prop}, P w K → ∀ g, K g → g < w.heap.size
/-- Two such things, all else as it was. -/
def Two (W w : World) (P Q : Side) : Prop :=
  ∃ K M, P w K ∧ Q w M ∧ (∀ g, K g → ¬ M g) ∧ (∀ g, K g → W.heap.size ≤ g) ∧ (∀ g, M g → W.heap.size ≤ g) ∧ Below W.heap.size W w ∧ 6 ≤ W.heap.size
section
variable {W w w' : World} {P Q P' Q' : Side}
theorem Two.below (h : Two W w P Q) : Below W.heap.size W w := by
  obtain ⟨K, M, _, _, _, _, _, b, _⟩ := h
  exact b
theorem Two.still (h : Two W w P Q) (cP : Closed P) (cQ : Closed Q) (hb : Below w.heap.size w w') : Two W w' P Q := by
  obtain ⟨K, M, h1, h2, h3, h4, h5, h6, h7⟩ := h
  have k := Keeps.of_below hb (Nat.le_refl _) (fun _ => False)
  exact ⟨K, M, cP.keeps h1 k (fun _ _ e => e) (fun _ e => e.elim), cQ.keeps h2 k (fun _ _ e => e) (fun _ e => e.elim), h3, h4, h5, h6.trans (hb.mono h6.size), h7⟩
theorem Two.turnP (h : Two W w P Q) (cQ : Closed Q) (hc : ∀ K, P w K → ∃ K', P' w' K' ∧ Mv8 w K w' K') : Two W w' P' Q := by
  obtain ⟨K, M, h1, h2, h3, h4, h5, h6, h7⟩ := h
  obtain ⟨K', p, m⟩ := hc K h1
  obtain ⟨b1, b2⟩ := m.below h4 h6.size
  refine ⟨K', M, p, cQ.keeps h2 m.keeps (fun g hg e => h3 g e hg) (fun g hg => Nat.le_trans h7 (h4 g hg)), fun g hg hM => ?_, b2, h5, h6.trans b1, h7⟩
  rcases m.own g hg with e | e
  · exact h3 g e hM
  · have := cQ.lt h2 g hM; omega
theorem Two.turnQ (h : Two W w P Q) (cP : Closed P) (hc : ∀ M, Q w M → ∃ M', Q' w' M' ∧ Mv8 w M w' M') : Two W w' P Q' := by
  obtain ⟨K, M, h1, h2, h3, h4, h5, h6, h7⟩ := h
  obtain ⟨M', q, m⟩ := hc M h2
  obtain ⟨b1, b2⟩ := m.below h5 h6.size
  refine ⟨K, M', cP.keeps h1 m.keeps (fun g hg e => h3 g hg e) (fun g hg => Nat.le_trans h7 (h5 g hg)), q, fun g hg hM => ?_, h4, b2, h6.trans b1, h7⟩
  rcases m.own g hM with e | e
  · exact h3 g hg e
  · have := cP.lt h1 g hg; omega
theorem Two.callP {α : Type} {E : α → Ending → Prop} {P' : α → Side} {f : FuncId} {args : Array Value} (h : Two W w P Q) (cQ : Closed Q)
    (hc : ∀ K, P w K → Calls Tryz.prog f args w fun e w' => ∃ x, E x e ∧ ∃ K', P' x w' K' ∧ Mv8 w K w' K') :
    Calls Tryz.prog f args w fun e w' => ∃ x, E x e ∧ Two W w' (P' x) Q := by
  obtain ⟨K, M, h1, h2, h3, h4, h5, h6, h7⟩ := id h
  refine (hc K h1).mono ?_
  rintro e w' ⟨x, he, K', p, m⟩
  obtain ⟨b1, b2⟩ := m.below h4 h6.size
  refine ⟨x, he, K', M, p, cQ.keeps h2 m.keeps (fun g hg e => h3 g e hg) (fun g hg => Nat.le_trans h7 (h4 g hg)), fun g hg hM => ?_, b2, h5, h6.trans b1, h7⟩
  rcases m.own g hg with e | e
  · exact h3 g e hM
  · have := cQ.lt h2 g hM; omega
theorem Two.callQ {E : Ending → Prop} {f : FuncId} {args : Array Value} (h : Two W w P Q) (cP : Closed P)
    (hc : ∀ M, Q w M → Calls Tryz.prog f args w fun e w' => E e ∧ ∃ M', Q' w' M' ∧ Mv8 w M w' M') :
    Calls Tryz.prog f args w fun e w' => E e ∧ Two W w' P Q' := by
  obtain ⟨K, M, h1, h2, h3, h4, h5, h6, h7⟩ := id h
  refine (hc M h2).mono ?_
  rintro e w' ⟨he, M', q, m⟩
  obtain ⟨b1, b2⟩ := m.below h5 h6.size
  refine ⟨he, K, M', cP.keeps h1 m.keeps (fun g hg e => h3 g hg e) (fun g hg => Nat.le_trans h7 (h5 g hg)), q, fun g hg hM => ?_, h4, b2, h6.trans b1, h7⟩
  rcases m.own g hM with e | e
  · exact h3 g hg e
  · have := cP.lt h1 g hg; omega
end
/-- The program's spill; its disk alone. -/
def PSp (sp ad rm : Nat) (many room head : Int) (G : List Sg) : Side := fun w K => ∃ aj, Sx w K sp ad aj rm many room head G
def PDk (ad rm : Nat) (dn : Bool) (L : List Pt) : Side := fun w F => Dsk w F ad rm dn L ∧ Laid w ∧ ∀ g, F g → 6 ≤ g
/-- The document's. -/
def QSp (ms mj m rm : Nat) (dn : Bool) (many room head : Int) (L : List Pt) : Side := fun w M => Rsp w M ms mj m rm dn many room head L
theorem PSp.closed (sp ad rm : Nat) (many room head : Int) (G : List Sg) : Closed (PSp sp ad rm many room head G) where
  keeps := fun ⟨aj, h⟩ k h1 h2 => ⟨aj, h.keeps k h1 h2⟩
  lt := fun ⟨aj, h⟩ g hg => h.lt hg
theorem PDk.closed (ad rm : Nat) (dn : Bool) (L : List Pt) : Closed (PDk ad rm dn L) where
  keeps := fun ⟨h, l, lo⟩ k h1 h2 => ⟨h.keeps k h1, l.keep (fun i hi => k.block i (by have := l.n; omega) (fun e => by have := h2 i e; omega)) k.size, lo⟩
  lt := fun ⟨h, _, _⟩ g hg => h.lt hg
theorem QSp.closed (ms mj m rm : Nat) (dn : Bool) (many room head : Int) (L : List Pt) : Closed (QSp ms mj m rm dn many room head L) where
  keeps := fun h k h1 _ => h.keeps k h1
  lt := fun h g hg => h.lt hg
section
variable {W w : World} {K : Nat → Prop} {sp ad ms mj m rm : Nat} {many room head : Int} {G : List Sg} {b : Bt} {A : Option Addr} {c : Nat}
/-- What a Put comes to. -/
def putC (rm : Nat) (room head : Int) (G : List Sg) (b : Bt) : Nat :=
  if mayOk b = false then 1 else if b.seq ≠ nxG G then 1 else if room ≤ nxG G - head then 6 else if 4096 < (putL b).length then 3 else if (encR (putL b)).length ≤ rm - used (pts' G) then 0 else 6
def putS (rm : Nat) (many room head : Int) (G : List Sg) (b : Bt) : List Sg := if putC rm room head G b = 0 then putG many G (putL b) else G
theorem putC_le (rm : Nat) (room head : Int) (G : List Sg) (b : Bt) : putC rm room head G b ≤ 10 := by
  unfold putC
  split
  · omega
  · split
    · omega
    · split
      · omega
      · split
        · omega
        · split <;> omega
theorem SOk.putS (ok : SOk rm many room head G) (hf : ∀ r ∈ b.rows, FitR r) (h1 : G.length < 900) (h2 : nxG G < 9000) : SOk rm many room head (putS rm many room head G b) ∧ (Go.Proofs.YtgeahpfdaehjaaaGreatDoor.putS rm many room head G b).length ≤ G.length + 1 ∧ nxG (Go.Proofs.YtgeahpfdaehjaaaGreatDoor.putS rm many room head G b) ≤ nxG G + 1 := by
  unfold Go.Proofs.YtgeahpfdaehjaaaGreatDoor.putS
  split
  · rename_i h0
    unfold putC at h0
    split at h0
    · omega
    · rename_i hm
      split at h0
      · omega
      · rename_i hs
        split at h0
        · omega
        · split at h0
          · omega
          · rename_i hl
            split at h0
            · rename_i hro
              refine ⟨ok.put hf (by simpa using hm) (by simpa using hs) hl hro h1 h2, len_put, by rw [nx_put]; exact Int.le_refl _⟩
            · omega
  · exact ⟨ok, by omega, by omega⟩
theorem putP (h : PSp sp ad rm many room head G w K) (ok : SOk rm many room head G) (hr : RdR w A b.rows) (hz : SizedR b.rows) (hf : ∀ r ∈ b.rows, FitR r) :
    Calls Tryz.prog 13 #[.pointer (some ⟨sp, 0, none⟩), btVal b.seq b.start A b.rows.length c] w fun e w' => e = .returned (ErrV (putC rm room head G b)) ∧ ∃ K', PSp sp ad rm many room head (putS rm many room head G b) w' K' ∧ Mv8 w K w' K' := by
  obtain ⟨aj, h⟩ := h
  have key : ∀ {r : Nat × List Sg}, putC rm room head G b = r.1 → putS rm many room head G b = r.2 → Calls Tryz.prog 13 #[.pointer (some ⟨sp, 0, none⟩), btVal b.seq b.start A b.rows.length c] w (PutS w K sp ad aj rm many room head r) → Calls Tryz.prog 13 #[.pointer (some ⟨sp, 0, none⟩), btVal b.seq b.start A b.rows.length c] w fun e w' => e = .returned (ErrV (putC rm room head G b)) ∧ ∃ K', PSp sp ad rm many room head (putS rm many room head G b) w' K' ∧ Mv8 w K w' K' := fun h1 h2 hc => hc.mono fun e w' ⟨h3, K', h4, h5⟩ => ⟨by rw [h1]; exact h3, K', ⟨aj, by rw [h2]; exact h4⟩, h5⟩
  by_cases hm : mayOk b = false
  · have e : putC rm room head G b = 1 := by unfold putC; rw [if_pos hm]
    exact key (r := (1, G)) e (by unfold putS; rw [e]; rfl) (putS_bad h hr hz hm)
  · have hm' : mayOk b = true := by simpa using hm
    by_cases hs : b.seq = nxG G
    · by_cases h1 : room ≤ nxG G - head
      · have e : putC rm room head G b = 6 := by unfold putC; rw [if_neg hm, if_neg (by simpa using hs), if_pos h1]
        exact key (r := (6, G)) e (by unfold putS; rw [e]; rfl) (putS_full h ok hr hz hf hm' hs h1)
      · by_cases h2 : 4096 < (putL b).length
        · have e : putC rm room head G b = 3 := by unfold putC; rw [if_neg hm, if_neg (by simpa using hs), if_neg h1, if_pos h2]
          exact key (r := (3, G)) e (by unfold putS; rw [e]; rfl) (putS_large h ok hr hz hf hm' hs h1 h2)
        · by_cases h3 : (encR (putL b)).length ≤ rm - used (pts' G)
          · have e : putC rm room head G b = 0 := by unfold putC; rw [if_neg hm, if_neg (by simpa using hs), if_neg h1, if_neg h2, if_pos h3]
            exact key (r := (0, putG many G (putL b))) e (by unfold putS; rw [if_pos e]) (putS_ok h ok hr hz hf hm' hs h1 h2 h3)
          · have e : putC rm room head G b = 6 := by unfold putC; rw [if_neg hm, if_neg (by simpa using hs), if_neg h1, if_neg h2, if_neg h3]
            exact key (r := (6, G)) e (by unfold putS; rw [e]; rfl) (putS_noroom h ok hr hz hf hm' hs h1 h2 h3)
    · have e : putC rm room head G b = 1 := by unfold putC; rw [if_neg hm, if_pos hs]
      exact key (r := (1, G)) e (by unfold putS; rw [e]; rfl) (putS_seq h ok hr hz hf hm' hs)
theorem putQ {M : Nat → Prop} (h : QSp ms mj m rm false many room head (pts' G) w M) (ok : SOk rm many room head G) (hr : RdR w A b.rows) (hz : SizedR b.rows) (hf : ∀ r ∈ b.rows, FitR r) :
    Calls Tryz.prog 14 #[.pointer (some ⟨ms, 0, none⟩), btVal b.seq b.start A b.rows.length c] w fun e w' => e = .returned (.int .i64 (putC rm room head G b : Nat)) ∧ ∃ M', QSp ms mj m rm false many room head (pts' (putS rm many room head G b)) w' M' ∧ Mv8 w M w' M' := by
  have hd : 0 ≤ head ∧ head ≤ nxG G := ⟨by have := ok.bds; omega, ok.h1⟩
  have keyQ : ∀ {r : Nat}, putC rm room head G b = r → r ≠ 0 → Calls Tryz.prog 14 #[.pointer (some ⟨ms, 0, none⟩), btVal b.seq b.start A b.rows.length c] w (fun e w' => e = .returned (.int .i64 (r : Nat)) ∧ Below w.heap.size w w') → Calls Tryz.prog 14 #[.pointer (some ⟨ms, 0, none⟩), btVal b.seq b.start A b.rows.length c] w fun e w' => e = .returned (.int .i64 (putC rm room head G b : Nat)) ∧ ∃ M', QSp ms mj m rm false many room head (pts' (putS rm many room head G b)) w' M' ∧ Mv8 w M w' M' := fun h1 h0 hc => hc.mono fun e w' ⟨h3, h4⟩ => ⟨by rw [h1]; exact h3, M, by unfold putS; rw [if_neg (by rw [h1]; exact h0)]; exact h.below h4, Mv8.still h4⟩
  by_cases hm : mayOk b = false
  · have e : putC rm room head G b = 1 := by unfold putC; rw [if_pos hm]
    exact keyQ e (by omega) (rs_put_bad h hr hz hm)
  · have hm' : mayOk b = true := by simpa using hm
    by_cases hs : b.seq = nxG G
    · by_cases h1 : room ≤ nxG G - head
      · have e : putC rm room head G b = 6 := by unfold putC; rw [if_neg hm, if_neg (by simpa using hs), if_pos h1]
        exact keyQ e (by omega) (rs_put_full h ok.g hr hz hf hm' hs hd h1)
      · by_cases h2 : 4096 < (putL b).length
        · have e : putC rm room head G b = 3 := by unfold putC; rw [if_neg hm, if_neg (by simpa using hs), if_neg h1, if_pos h2]
          exact keyQ e (by omega) (rs_put_large h ok.g hr hz hf hm' hs hd h1 h2)
        · by_cases h3 : (encR (putL b)).length ≤ rm - used (pts' G)
          · have e : putC rm room head G b = 0 := by unfold putC; rw [if_neg hm, if_neg (by simpa using hs), if_neg h1, if_neg h2, if_pos h3]
            refine (rs_put_ok h ok.g hr hz hf hm' hs hd h1 h2 h3).mono fun e' w' ⟨h4, K', h5, h6⟩ => ⟨by rw [e]; exact h4, K', by unfold putS; rw [if_pos e]; exact h5, h6⟩
          · have e : putC rm room head G b = 6 := by unfold putC; rw [if_neg hm, if_neg (by simpa using hs), if_neg h1, if_neg h2, if_neg h3]
            refine (rs_put_no h ok.g hr hz hf hm' hs hd h1 h2 h3).mono fun e' w' ⟨h4, K', h5, h6⟩ => ⟨by rw [e]; exact h4, K', by unfold putS; rw [if_neg (by rw [e]; omega)]; exact h5, h6⟩
    · have e : putC rm room head G b = 1 := by unfold putC; rw [if_neg hm, if_pos hs]
      exact keyQ e (by omega) (rs_put_seq h ok.g hr hz hm' hs)
end
end Go.Proofs.YtgeahpfdaehjaaaGreatDoor
namespace Go.Proofs.YtgeahpfdaehjaaaGreatDoor
open Go.ChangeShapes Go.WideShapes Go.ChangeAt Go.RowKit
set_option linter.unusedVariables false

section
variable {W w w' : World} {K M : Nat → Prop} {sp ad ms mj m rm : Nat} {many room head n : Int} {G : List Sg}
/-- What an Ack comes to. -/
def ackC (head : Int) (G : List Sg) (n : Int) : Nat := if head < nxG G ∧ n = head then 0 else 7
def ackH (head : Int) (G : List Sg) (n : Int) : Int := if ackC head G n = 0 then head + 1 else head
def ackG (head : Int) (G : List Sg) (n : Int) : List Sg := if ackC head G n = 0 then trimG G (head + 1) else G
theorem ackC_le (head : Int) (G : List Sg) (n : Int) : ackC head G n ≤ 10 := by unfold ackC; split <;> omega
theorem ack_yes (h : head < nxG G ∧ n = head) : ackC head G n = 0 ∧ ackH head G n = head + 1 ∧ ackG head G n = trimG G (head + 1) := by
  have e : ackC head G n = 0 := by unfold ackC; rw [if_pos h]
  exact ⟨e, by unfold ackH; rw [if_pos e], by unfold ackG; rw [if_pos e]⟩
theorem ack_no (h : ¬ (head < nxG G ∧ n = head)) : ackC head G n = 7 ∧ ackH head G n = head ∧ ackG head G n = G := by
  have e : ackC head G n = 7 := by unfold ackC; rw [if_neg h]
  exact ⟨e, by unfold ackH; rw [if_neg (by rw [e]; omega)], by unfold ackG; rw [if_neg (by rw [e]; omega)]⟩
theorem SOk.ackS (ok : SOk rm many room head G) : SOk rm many room (ackH head G n) (ackG head G n) ∧ (ackG head G n).length ≤ G.length ∧ nxG (ackG head G n) = nxG G := by
  by_cases h : head < nxG G ∧ n = head
  · obtain ⟨_, e2, e3⟩ := ack_yes h
    rw [e2, e3]
    exact ⟨ok.ack h.1, trim_le _ _, (trim_clean G (head + 1) ok.g.clean (by have := ok.h0; omega)).2.2.1⟩
  · obtain ⟨_, e2, e3⟩ := ack_no h
    rw [e2, e3]
    exact ⟨ok, Nat.le_refl _, rfl⟩
theorem ackP (h : PSp sp ad rm many room head G w K) (ok : SOk rm many room head G) :
    Calls Tryz.prog 68 #[.pointer (some ⟨sp, 0, none⟩), .int .i64 n] w fun e w' => e = .returned (ErrV (ackC head G n)) ∧ ∃ K', PSp sp ad rm many room (ackH head G n) (ackG head G n) w' K' ∧ Mv8 w K w' K' := by
  obtain ⟨aj, h⟩ := h
  by_cases hc : head < nxG G ∧ n = head
  · obtain ⟨e1, e2, e3⟩ := ack_yes hc
    rw [e1, e2, e3, hc.2]
    exact (ackS_ok h ok hc.1).mono fun e w' ⟨h1, K', h2, h3⟩ => ⟨h1, K', ⟨aj, h2⟩, h3⟩
  · obtain ⟨e1, e2, e3⟩ := ack_no hc
    rw [e1, e2, e3]
    have fin : ∀ e w', (e = Ending.returned (.iface 41 (.int .i64 7)) ∧ Below w.heap.size w w') → e = .returned (ErrV 7) ∧ ∃ K', PSp sp ad rm many room head G w' K' ∧ Mv8 w K w' K' := fun e w' ⟨h1, h2⟩ => ⟨h1, K, ⟨aj, h.below h2⟩, Mv8.still h2⟩
    by_cases hn : head < nxG G
    · exact (ackS_other h ok n hn (fun e => hc ⟨hn, e⟩)).mono fin
    · exact (ackS_none h ok n (by have := ok.h1; omega)).mono fin
theorem ackQ (h : QSp ms mj m rm false many room head (pts' G) w M) (ok : SOk rm many room head G) :
    Calls Tryz.prog 41 #[.pointer (some ⟨ms, 0, none⟩), .int .i64 n] w fun e w' => e = .returned (.int .i64 (ackC head G n : Nat)) ∧ ∃ M', QSp ms mj m rm false many room (ackH head G n) (pts' (ackG head G n)) w' M' ∧ Mv8 w M w' M' := by
  by_cases hc : head < nxG G ∧ n = head
  · obtain ⟨e1, e2, e3⟩ := ack_yes hc
    rw [e1, e2, e3, hc.2]
    exact rs_ack_ok h ok.g hc.1 (by have := ok.bds; omega)
  · obtain ⟨e1, e2, e3⟩ := ack_no hc
    rw [e1, e2, e3]
    have fin : ∀ e w', (e = Ending.returned (.int .i64 7) ∧ Below w.heap.size w w') → e = .returned (.int .i64 (7 : Nat)) ∧ ∃ M', QSp ms mj m rm false many room head (pts' G) w' M' ∧ Mv8 w M w' M' := fun e w' ⟨h1, h2⟩ => ⟨h1, M, h.below h2, Mv8.still h2⟩
    by_cases hn : head < nxG G
    · exact (rs_ack_other h ok.g n hn (fun e => hc ⟨hn, e⟩)).mono fin
    · exact (rs_ack_none h ok.g n (by have := ok.h1; omega)).mono fin
/-! ### a block of the law's own beside the document's -/
def QG (x : Nat) (o : Obj) (Q : Side) : Side := fun w M => ∃ M0, Q w M0 ∧ w.heap[x]? = some o ∧ ¬ M0 x ∧ ∀ g, M g ↔ M0 g ∨ g = x
theorem QG.closed {x : Nat} {o : Obj} {Q : Side} (c : Closed Q) : Closed (QG x o Q) where
  keeps := fun ⟨M0, h1, h2, h3, h4⟩ k hF hg => ⟨M0, c.keeps h1 k (fun g hm => hF g ((h4 g).2 (.inl hm))) hg, keeps_out k h2 (hF x ((h4 x).2 (.inr rfl))), h3, h4⟩
  lt := fun ⟨M0, h1, h2, h3, h4⟩ g hg => by
    rcases (h4 g).1 hg with e | rfl
    · exact c.lt h1 g e
    · exact lt_of_block h2
theorem QG.call {x : Nat} {o : Obj} {Q Q' : Side} {E : Ending → Prop} {f : FuncId} {args : Array Value} (h : QG x o Q w M) (hc : ∀ M0, Q w M0 → Calls Tryz.prog f args w fun e w' => E e ∧ ∃ M', Q' w' M' ∧ Mv8 w M0 w' M') :
    Calls Tryz.prog f args w fun e w' => E e ∧ ∃ M', QG x o Q' w' M' ∧ Mv8 w M w' M' := by
  obtain ⟨M0, h1, h2, h3, h4⟩ := h
  refine (hc M0 h1).mono ?_
  rintro e w' ⟨he, M', q, mv⟩
  have hl := lt_of_block h2
  refine ⟨he, fun g => M' g ∨ g = x, ⟨M', q, keeps_out mv.keeps h2 h3, fun hx => ?_, fun g => Iff.rfl⟩, mv.keeps.wide (fun g hg _ => (h4 g).2 (.inl hg)), fun g hg => ?_⟩
  · rcases mv.own x hx with e | e
    · exact h3 e
    · omega
  · rcases hg with e | rfl
    · rcases mv.own g e with e | e
      · exact .inl ((h4 g).2 (.inl e))
      · exact .inr e
    · exact .inl ((h4 g).2 (.inr rfl))
/-- A block laid just now. -/
theorem Two.guest {P Q : Side} {c : Array Value} {t : TypeId} (h : Two W w P Q) (cP : Closed P) (cQ : Closed Q) : Two W (w.alloc (.cells c t)) P (QG w.heap.size (.cells c t (0, 0)) Q) := by
  obtain ⟨K, M, h1, h2, h3, h4, h5, h6, h7⟩ := h
  have hb : Below w.heap.size w (w.alloc (.cells c t)) := (Below.refl _ w).alloc (Nat.le_refl _) _
  have k := Keeps.of_below hb (Nat.le_refl _) (fun _ => False)
  refine ⟨K, fun g => M g ∨ g = w.heap.size, cP.keeps h1 k (fun _ _ e => e) (fun _ e => e.elim), ⟨M, cQ.keeps h2 k (fun _ _ e => e) (fun _ e => e.elim), heap_alloc_new w _, fun e => by have := cQ.lt h2 _ e; omega, fun g => Iff.rfl⟩, fun g hg hm => ?_, h4, fun g hg => ?_, h6.trans (hb.mono h6.size), h7⟩
  · rcases hm with e | rfl
    · exact h3 g hg e
    · have := cP.lt h1 _ hg; omega
  · rcases hg with e | rfl
    · exact h5 g e
    · exact h6.size
theorem Two.drop {P Q : Side} {x : Nat} {o : Obj} (h : Two W w P (QG x o Q)) : Two W w P Q := by
  obtain ⟨K, M, h1, ⟨M0, q1, q2, q3, q4⟩, h3, h4, h5, h6, h7⟩ := h
  exact ⟨K, M0, h1, q1, fun g hg hm => h3 g hg ((q4 g).2 (.inl hm)), h4, fun g hg => h5 g ((q4 g).2 (.inl hg)), h6, h7⟩
theorem Two.block {P Q : Side} {x : Nat} {o : Obj} (h : Two W w P (QG x o Q)) : w.heap[x]? = some o := by
  obtain ⟨K, M, _, ⟨_, _, q2, _⟩, _⟩ := h
  exact q2
/-! ### what is asked of both -/
/-- What Head and Front tell. -/
theorem heads (ok : SOk rm many room head G) : ∃ (b : Bt) (r : Rc) (is : Bool), (is = true → b.seq = head) ∧ r.length ≤ 4096 ∧
    (∀ w K, PSp sp ad rm many room head G w K → Calls Tryz.prog 34 #[.pointer (some ⟨sp, 0, none⟩)] w fun e w' => ∃ B c A cap, e = .returned (.tuple #[btVal b.seq b.start B b.rows.length c, .slice A r.length cap, .bool is]) ∧ RdS w' A cap r ∧ Below w.heap.size w w' ∧ ∀ a, A = some a → w.heap.size ≤ a.block) ∧
    (∀ w M, QSp ms mj m rm false many room head (pts' G) w M → Calls Tryz.prog 38 #[.pointer (some ⟨ms, 0, none⟩)] w fun e w' => e = .returned (.tuple #[.string ⟨r.toArray⟩, .bool is]) ∧ Below w.heap.size w w') := by
  by_cases hl : head < nxG G
  · obtain ⟨k, r, b, hk, hr, hn, hb, hs⟩ := ok.at hl
    refine ⟨b, r, true, fun _ => hs, hr, fun w K h => ?_, fun w M h => rs_front h ok.g hk hn⟩
    obtain ⟨aj, h⟩ := h
    refine (headS h ok hk hr hn hb hs).mono ?_
    rintro e w' ⟨B, c, A, cap, rfl, _, rd, bl, nw⟩
    exact ⟨B, c, A, cap, rfl, rd, bl, nw⟩
  · have hn : head = nxG G := by have := ok.h1; omega
    refine ⟨⟨0, 0, []⟩, [], false, (fun e => by cases e), (by simp), fun w K h => ?_, fun w M h => rs_front_none h ok.g hn⟩
    obtain ⟨aj, h⟩ := h
    refine (headS_none h ok hn).mono ?_
    rintro e w' ⟨rfl, bl⟩
    exact ⟨none, 0, none, 0, rfl, RdS.nil _, bl, fun _ e => by cases e⟩
/-- The document's pointers, and its head. -/
def Cs21 (w : World) (ms mj m : Nat) (head : Int) : Prop := w.cell? ⟨ms, 0, none⟩ = some (.pointer (some ⟨mj, 0, none⟩)) ∧ w.cell? ⟨ms, 2, none⟩ = some (.int .i64 head) ∧ w.cell? ⟨mj, 0, none⟩ = some (.pointer (some ⟨m, 0, none⟩))
theorem Two.cs {P : Side} {dn : Bool} {L : List Pt} (h : Two W w P (QSp ms mj m rm dn many room head L)) : Cs21 w ms mj m head := by
  obtain ⟨K, M, _, q, _⟩ := h
  obtain ⟨H, j⟩ := q.jn
  exact ⟨q.c0, q.c2, j.c0⟩
section
variable {Z : World} (h : Two W Z (PSp sp ad rm many room head G) (QSp ms mj m rm false many room head (pts' G))) (ok : SOk rm many room head G)
include h
theorem ask_at (wx : World) (hx : Below Z.heap.size Z wx) : Two W wx (PSp sp ad rm many room head G) (QSp ms mj m rm false many room head (pts' G)) := h.still (PSp.closed _ _ _ _ _ _ _) (QSp.closed _ _ _ _ _ _ _ _ _) hx
include ok
theorem ask_len (wx : World) (hx : Below Z.heap.size Z wx) : Calls Tryz.prog 18 #[.pointer (some ⟨sp, 0, none⟩)] wx fun e w' => e = .returned (.int .i64 (nxG G - head)) ∧ Below Z.heap.size Z w' ∧ Cs21 w' ms mj m head := by
  obtain ⟨K, M, ⟨aj, p⟩, _⟩ := ask_at h wx hx
  refine (lenS p ok).mono ?_
  rintro e w' ⟨h1, q, rfl⟩
  have hb := hx.trans ((below_drewN wx q).mono hx.size)
  exact ⟨h1, hb, (ask_at h _ hb).cs⟩
theorem ask_next (wx : World) (hx : Below Z.heap.size Z wx) : Calls Tryz.prog 11 #[.pointer (some ⟨sp, 0, none⟩)] wx fun e w' => e = .returned (.int .i64 (nxG G)) ∧ Below Z.heap.size Z w' ∧ Cs21 w' ms mj m head := by
  obtain ⟨K, M, ⟨aj, p⟩, _⟩ := ask_at h wx hx
  refine (nextS p ok.g).mono ?_
  rintro e w' ⟨h1, q, rfl⟩
  have hb := hx.trans ((below_drewN wx q).mono hx.size)
  exact ⟨h1, hb, (ask_at h _ hb).cs⟩
theorem ask_nextR (wx : World) (hx : Below Z.heap.size Z wx) : Calls Tryz.prog 19 #[.pointer (some ⟨ms, 0, none⟩)] wx fun e w' => e = .returned (.int .i64 (nxG G)) ∧ Below Z.heap.size Z w' ∧ Cs21 w' ms mj m head := by
  obtain ⟨K, M, _, q, _⟩ := ask_at h wx hx
  refine (rs_next q ok.g).mono ?_
  rintro e w' ⟨h1, h2⟩
  have hb := hx.trans (h2.mono hx.size)
  exact ⟨h1, hb, (ask_at h _ hb).cs⟩
theorem ask_usedR (wx : World) (hx : Below Z.heap.size Z wx) : Calls Tryz.prog 87 #[.pointer (some ⟨m, 0, none⟩)] wx fun e w' => e = .returned (.int .i64 (used (pts' G) : Nat)) ∧ Below Z.heap.size Z w' ∧ Cs21 w' ms mj m head := by
  have hT := ask_at h wx hx
  obtain ⟨K, M, _, q, _⟩ := id hT
  obtain ⟨H, j⟩ := q.jn
  obtain ⟨A, cap, hb, _⟩ := j.ref
  refine (refUsed wx m rm false A cap (pts' G) hb ok.g.plen (by have := ok.g.used; omega)).mono ?_
  rintro e w' ⟨h1, rfl⟩
  exact ⟨h1, hx, hT.cs⟩
omit ok in
end
end
end Go.Proofs.YtgeahpfdaehjaaaGreatDoor
