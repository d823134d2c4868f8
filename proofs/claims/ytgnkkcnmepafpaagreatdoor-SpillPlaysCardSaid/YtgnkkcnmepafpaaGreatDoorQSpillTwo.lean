/-
  Layer 21: the program's spill and the document's side by side.
-/
import Derived.Test.YtgnkkcnmepafpaaGreatDoorQRefSpill4
import Derived.Test.YtgnkkcnmepafpaaGreatDoorQDeedS
namespace Go.Proofs.YtgnkkcnmepafpaaGreatDoor
open Go.ChangeShapes Go.WideShapes Go.ChangeAt Go.RowKit
set_option linter.unusedVariables false

/-- A thing with blocks of its own. -/
abbrev Side := World → (Nat → Prop) → Prop
/-- It stays where its blocks stay. -/
structure Closed (P : Side) : Prop where
  keeps : ∀ {w w' : World} {K F : Nat → Prop}, P w K → Keeps F w w' → (∀ g, K g → ¬ F g) → (∀ g, F g → 6 ≤ g) → P w' K
  lt : ∀ {w : World} {K : Nat → Prop}, P w K → ∀ g, K g → g < w.heap.size
/-- Two such things, all else as it was. -/
def Two (W w : World) (P Q : Side) : Prop :=
  ∃ K M, P w K ∧ Q w M ∧ (∀ g, K g → ¬ M g) ∧ (∀ g, K g → W.heap.size ≤ g) ∧ (∀ g, M g → W.heap.size ≤ g) ∧ Below W.heap.size W w ∧ 6 ≤ W.heap.size
section
variable {W w w' : World} {P Q P' Q' : Side}
theorem Two.below (h : Two W w P Q) : Below W.heap.size W w := by
  obtain ⟨K, M, _, _, _, _, _, b, _⟩ := h
  exact b
theorem Two.still (h : Two W w P Q) (cP : Closed P) (cQ : Closed Q) (hb : Below w.heap.size w w') : Two W w' P Q := by
  obtain ⟨K, M, h1, h2, h3, h4, h5, h6, h7⟩ := h
  have k := Keeps.of_below hb (Nat.le_refl _) (fun _ => False)
  exact ⟨K, M, cP.keeps h1 k (fun _ _ e => e) (fun _ e => e.elim), cQ.keeps h2 k (fun _ _ e => e) (fun _ e => e.elim), h3, h4, h5, h6.trans (hb.mono h6.size), h7⟩
theorem Two.turnP (h : Two W w P Q) (cQ : Closed Q) (hc : ∀ K, P w K → ∃ K', P' w' K' ∧ Mv8 w K w' K') : Two W w' P' Q := by
  obtain ⟨K, M, h1, h2, h3, h4, h5, h6, h7⟩ := h
  obtain ⟨K', p, m⟩ := hc K h1
  obtain ⟨b1, b2⟩ := m.below h4 h6.size
  refine ⟨K', M, p, cQ.keeps h2 m.keeps (fun g hg e => h3 g e hg) (fun g hg => Nat.le_trans h7 (h4 g hg)), fun g hg hM => ?_, b2, h5, h6.trans b1, h7⟩
  rcases m.own g hg with e | e
  · exact h3 g e hM
  · have := cQ.lt h2 g hM; omega
theorem Two.turnQ (h : Two W w P Q) (cP : Closed P) (hc : ∀ M, Q w M → ∃ M', Q' w' M' ∧ Mv8 w M w' M') : Two W w' P Q' := by
  obtain ⟨K, M, h1, h2, h3, h4, h5, h6, h7⟩ := h
  obtain ⟨M', q, m⟩ := hc M h2
  obtain ⟨b1, b2⟩ := m.below h5 h6.size
  refine ⟨K, M', cP.keeps h1 m.keeps (fun g hg e => h3 g hg e) (fun g hg => Nat.le_trans h7 (h5 g hg)), q, fun g hg hM => ?_, h4, b2, h6.trans b1, h7⟩
  rcases m.own g hM with e | e
  · exact h3 g hg e
  · have := cP.lt h1 g hg; omega
theorem Two.callP {α : Type} {E : α → Ending → Prop} {P' : α → Side} {f : FuncId} {args : Array Value} (h : Two W w P Q) (cQ : Closed Q)
    (hc : ∀ K, P w K → Calls Tryz.prog f args w fun e w' => ∃ x, E x e ∧ ∃ K', P' x w' K' ∧ Mv8 w K w' K') :
    Calls Tryz.prog f args w fun e w' => ∃ x, E x e ∧ Two W w' (P' x) Q := by
  obtain ⟨K, M, h1, h2, h3, h4, h5, h6, h7⟩ := id h
  refine (hc K h1).mono ?_
  rintro e w' ⟨x, he, K', p, m⟩
  obtain ⟨b1, b2⟩ := m.below h4 h6.size
  refine ⟨x, he, K', M, p, cQ.keeps h2 m.keeps (fun g hg e => h3 g e hg) (fun g hg => Nat.le_trans h7 (h4 g hg)), fun g hg hM => ?_, b2, h5, h6.trans b1, h7⟩
  rcases m.own g hg with e | e
  · exact h3 g e hM
  · have := cQ.lt h2 g hM; omega
theorem Two.callQ {E : Ending → Prop} {f : FuncId} {args : Array Value} (h : Two W w P Q) (cP : Closed P)
    (hc : ∀ M, Q w M → Calls Tryz.prog f args w fun e w' => E e ∧ ∃ M', Q' w' M' ∧ Mv8 w M w' M') :
    Calls Tryz.prog f args w fun e w' => E e ∧ Two W w' P Q' := by
  obtain ⟨K, M, h1, h2, h3, h4, h5, h6, h7⟩ := id h
  refine (hc M h2).mono ?_
  rintro e w' ⟨he, M', q, m⟩
  obtain ⟨b1, b2⟩ := m.below h5 h6.size
  refine ⟨he, K, M', cP.keeps h1 m.keeps (fun g hg e => h3 g hg e) (fun g hg => Nat.le_trans h7 (h5 g hg)), q, fun g hg hM => ?_, h4, b2, h6.trans b1, h7⟩
  rcases m.own g hM with e | e
  · exact h3 g hg e
  · have := cP.lt h1 g hg; omega
end
/-- The program's spill; its disk alone. -/
def PSp (sp ad rm : Nat) (many room head : Int) (G : List Sg) : Side := fun w K => ∃ aj, Sx w K sp ad aj rm many room head G
def PDk (ad rm : Nat) (dn : Bool) (L : List Pt) : Side := fun w F => Dsk w F ad rm dn L ∧ Laid w ∧ ∀ g, F g → 6 ≤ g
/-- The document's. -/
def QSp (ms mj m rm : Nat) (dn : Bool) (many room head : Int) (L : List Pt) : Side := fun w M => Rsp w M ms mj m rm dn many room head L
theorem PSp.closed (sp ad rm : Nat) (many room head : Int) (G : List Sg) : Closed (PSp sp ad rm many room head G) where
  keeps := fun ⟨aj, h⟩ k h1 h2 => ⟨aj, h.keeps k h1 h2⟩
  lt := fun ⟨aj, h⟩ g hg => h.lt hg
theorem PDk.closed (ad rm : Nat) (dn : Bool) (L : List Pt) : Closed (PDk ad rm dn L) where
  keeps := fun ⟨h, l, lo⟩ k h1 h2 => ⟨h.keeps k h1, l.keep (fun i hi => k.block i (by have := l.n; omega) (fun e => by have := h2 i e; omega)) k.size, lo⟩
  lt := fun ⟨h, _, _⟩ g hg => h.lt hg
theorem QSp.closed (ms mj m rm : Nat) (dn : Bool) (many room head : Int) (L : List Pt) : Closed (QSp ms mj m rm dn many room head L) where
  keeps := fun h k h1 _ => h.keeps k h1
  lt := fun h g hg => h.lt hg
section
variable {W w : World} {K : Nat → Prop} {sp ad ms mj m rm : Nat} {many room head : Int} {G : List Sg} {b : Bt} {A : Option Addr} {c : Nat}
/-- What a Put comes to. -/
def putC (rm : Nat) (room head : Int) (G : List Sg) (b : Bt) : Nat :=
  if mayOk b = false then 1 else if b.seq ≠ nxG G then 1 else if room ≤ nxG G - head then 6 else if 4096 < (putL b).length then 3 else if (encR (putL b)).length ≤ rm - used (pts' G) then 0 else 6
def putS (rm : Nat) (many room head : Int) (G : List Sg) (b : Bt) : List Sg := if putC rm room head G b = 0 then putG many G (putL b) else G
theorem putC_le (rm : Nat) (room head : Int) (G : List Sg) (b : Bt) : putC rm room head G b ≤ 10 := by
  unfold putC
  split
  · omega
  · split
    · omega
    · split
      · omega
      · split
        · omega
        · split <;> omega
theorem SOk.putS (ok : SOk rm many room head G) (hf : ∀ r ∈ b.rows, FitR r) (h1 : G.length < 900) (h2 : nxG G < 9000) : SOk rm many room head (putS rm many room head G b) ∧ (Go.Proofs.YtgnkkcnmepafpaaGreatDoor.putS rm many room head G b).length ≤ G.length + 1 ∧ nxG (Go.Proofs.YtgnkkcnmepafpaaGreatDoor.putS rm many room head G b) ≤ nxG G + 1 := by
  unfold Go.Proofs.YtgnkkcnmepafpaaGreatDoor.putS
  split
  · rename_i h0
    unfold putC at h0
    split at h0
    · omega
    · rename_i hm
      split at h0
      · omega
      · rename_i hs
        split at h0
        · omega
        · split at h0
          · omega
          · rename_i hl
            split at h0
            · rename_i hro
              refine ⟨ok.put hf (by simpa using hm) (by simpa using hs) hl hro h1 h2, len_put, by rw [nx_put]; exact Int.le_refl _⟩
            · omega
  · exact ⟨ok, by omega, by omega⟩
theorem putP (h : PSp sp ad rm many room head G w K) (ok : SOk rm many room head G) (hr : RdR w A b.rows) (hz : SizedR b.rows) (hf : ∀ r ∈ b.rows, FitR r) :
    Calls Tryz.prog 14 #[.pointer (some ⟨sp, 0, none⟩), btVal b.seq b.start A b.rows.length c] w fun e w' => e = .returned (ErrV (putC rm room head G b)) ∧ ∃ K', PSp sp ad rm many room head (putS rm many room head G b) w' K' ∧ Mv8 w K w' K' := by
  obtain ⟨aj, h⟩ := h
  have key : ∀ {r : Nat × List Sg}, putC rm room head G b = r.1 → putS rm many room head G b = r.2 → Calls Tryz.prog 14 #[.pointer (some ⟨sp, 0, none⟩), btVal b.seq b.start A b.rows.length c] w (PutS w K sp ad aj rm many room head r) → Calls Tryz.prog 14 #[.pointer (some ⟨sp, 0, none⟩), btVal b.seq b.start A b.rows.length c] w fun e w' => e = .returned (ErrV (putC rm room head G b)) ∧ ∃ K', PSp sp ad rm many room head (putS rm many room head G b) w' K' ∧ Mv8 w K w' K' := fun h1 h2 hc => hc.mono fun e w' ⟨h3, K', h4, h5⟩ => ⟨by rw [h1]; exact h3, K', ⟨aj, by rw [h2]; exact h4⟩, h5⟩
  by_cases hm : mayOk b = false
  · have e : putC rm room head G b = 1 := by unfold putC; rw [if_pos hm]
    exact key (r := (1, G)) e (by unfold putS; rw [e]; rfl) (putS_bad h hr hz hm)
  · have hm' : mayOk b = true := by simpa using hm
    by_cases hs : b.seq = nxG G
    · by_cases h1 : room ≤ nxG G - head
      · have e : putC rm room head G b = 6 := by unfold putC; rw [if_neg hm, if_neg (by simpa using hs), if_pos h1]
        exact key (r := (6, G)) e (by unfold putS; rw [e]; rfl) (putS_full h ok hr hz hf hm' hs h1)
      · by_cases h2 : 4096 < (putL b).length
        · have e : putC rm room head G b = 3 := by unfold putC; rw [if_neg hm, if_neg (by simpa using hs), if_neg h1, if_pos h2]
          exact key (r := (3, G)) e (by unfold putS; rw [e]; rfl) (putS_large h ok hr hz hf hm' hs h1 h2)
        · by_cases h3 : (encR (putL b)).length ≤ rm - used (pts' G)
          · have e : putC rm room head G b = 0 := by unfold putC; rw [if_neg hm, if_neg (by simpa using hs), if_neg h1, if_neg h2, if_pos h3]
            exact key (r := (0, putG many G (putL b))) e (by unfold putS; rw [if_pos e]) (putS_ok h ok hr hz hf hm' hs h1 h2 h3)
          · have e : putC rm room head G b = 6 := by unfold putC; rw [if_neg hm, if_neg (by simpa using hs), if_neg h1, if_neg h2, if_neg h3]
            exact key (r := (6, G)) e (by unfold putS; rw [e]; rfl) (putS_noroom h ok hr hz hf hm' hs h1 h2 h3)
    · have e : putC rm room head G b = 1 := by unfold putC; rw [if_neg hm, if_pos hs]
      exact key (r := (1, G)) e (by unfold putS; rw [e]; rfl) (putS_seq h ok hr hz hf hm' hs)
theorem putQ {M : Nat → Prop} (h : QSp ms mj m rm false many room head (pts' G) w M) (ok : SOk rm many room head G) (hr : RdR w A b.rows) (hz : SizedR b.rows) (hf : ∀ r ∈ b.rows, FitR r) :
    Calls Tryz.prog 15 #[.pointer (some ⟨ms, 0, none⟩), btVal b.seq b.start A b.rows.length c] w fun e w' => e = .returned (.int .i64 (putC rm room head G b : Nat)) ∧ ∃ M', QSp ms mj m rm false many room head (pts' (putS rm many room head G b)) w' M' ∧ Mv8 w M w' M' := by
  have hd : 0 ≤ head ∧ head ≤ nxG G := ⟨by have := ok.bds; omega, ok.h1⟩
  have keyQ : ∀ {r : Nat}, putC rm room head G b = r → r ≠ 0 → Calls Tryz.prog 15 #[.pointer (some ⟨ms, 0, none⟩), btVal b.seq b.start A b.rows.length c] w (fun e w' => e = .returned (.int .i64 (r : Nat)) ∧ Below w.heap.size w w') → Calls Tryz.prog 15 #[.pointer (some ⟨ms, 0, none⟩), btVal b.seq b.start A b.rows.length c] w fun e w' => e = .returned (.int .i64 (putC rm room head G b : Nat)) ∧ ∃ M', QSp ms mj m rm false many room head (pts' (putS rm many room head G b)) w' M' ∧ Mv8 w M w' M' := fun h1 h0 hc => hc.mono fun e w' ⟨h3, h4⟩ => ⟨by rw [h1]; exact h3, M, by unfold putS; rw [if_neg (by rw [h1]; exact h0)]; exact h.below h4, Mv8.still h4⟩
  by_cases hm : mayOk b = false
  · have e : putC rm room head G b = 1 := by unfold putC; rw [if_pos hm]
    exact keyQ e (by omega) (rs_put_bad h hr hz hm)
  · have hm' : mayOk b = true := by simpa using hm
    by_cases hs : b.seq = nxG G
    · by_cases h1 : room ≤ nxG G - head
      · have e : putC rm room head G b = 6 := by unfold putC; rw [if_neg hm, if_neg (by simpa using hs), if_pos h1]
        exact keyQ e (by omega) (rs_put_full h ok.g hr hz hf hm' hs hd h1)
      · by_cases h2 : 4096 < (putL b).length
        · have e : putC rm room head G b = 3 := by unfold putC; rw [if_neg hm, if_neg (by simpa using hs), if_neg h1, if_pos h2]
          exact keyQ e (by omega) (rs_put_large h ok.g hr hz hf hm' hs hd h1 h2)
        · by_cases h3 : (encR (putL b)).length ≤ rm - used (pts' G)
          · have e : putC rm room head G b = 0 := by unfold putC; rw [if_neg hm, if_neg (by simpa using hs), if_neg h1, if_neg h2, if_pos h3]
            refine (rs_put_ok h ok.g hr hz hf hm' hs hd h1 h2 h3).mono fun e' w' ⟨h4, K', h5, h6⟩ => ⟨by rw [e]; exact h4, K', by unfold putS; rw [if_pos e]; exact h5, h6⟩
          · have e : putC rm room head G b = 6 := by unfold putC; rw [if_neg hm, if_neg (by simpa using hs), if_neg h1, if_neg h2, if_neg h3]
            refine (rs_put_no h ok.g hr hz hf hm' hs hd h1 h2 h3).mono fun e' w' ⟨h4, K', h5, h6⟩ => ⟨by rw [e]; exact h4, K', by unfold putS; rw [if_neg (by rw [e]; omega)]; exact h5, h6⟩
    · have e : putC rm room head G b = 1 := by unfold putC; rw [if_neg hm, if_pos hs]
      exact keyQ e (by omega) (rs_put_seq h ok.g hr hz hm' hs)
end
end Go.Proofs.YtgnkkcnmepafpaaGreatDoor
