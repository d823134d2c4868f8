/-
  Layer 20 (window): the program's table and the document's side by side; what both make of a value.
-/
import Derived.Test.YtedhciolnekpaaaGreatDoorQWindowGlue
import Derived.Test.YtedhciolnekpaaaGreatDoorQWindowUp
import Derived.Test.YtedhciolnekpaaaGreatDoorGrpJ
import Derived.Test.YtedhciolnekpaaaGreatDoorQWindowClose
import Derived.Test.YtedhciolnekpaaaGreatDoorQWindowGood
import Derived.Test.YtedhciolnekpaaaGreatDoorGrpI
namespace Go.Proofs.YtedhciolnekpaaaGreatDoor
open Go.ChangeShapes Go.WideShapes Go.ChangeAt Go.RowKit Go.Deep
set_option linter.unusedVariables false

/-- An error by its number; 0: none. -/
def errC (c : Nat) : Value := if c = 0 then .nilIface else .iface 33 (.int .i64 (c : Nat))
theorem errC_0 : errC 0 = .nilIface := rfl
theorem errC_of {c : Nat} (h : c ≠ 0) : errC c = .iface 33 (.int .i64 (c : Nat)) := if_neg h
theorem codeW_walk (w : World) (c : Nat) (hc : c ≤ 10) :
    Calls Tryz.prog 14 #[errC c] w fun e w' => e = .returned (.int .i64 (c : Nat)) ∧ w' = w := by
  by_cases h0 : c = 0
  · subst h0
    rw [errC_0]
    go_enter Tryz.func14, Tryz.ntmps14
    go_wp2_with fail
    go_ret
    exact ⟨rfl, rfl⟩
  · rw [errC_of h0]
    have eqc := eql_codes
    go_enter Tryz.func14, Tryz.ntmps14
    go_wp2_with fail
    go_loop [3] (fun s => ∃ k : Nat, 1 ≤ k ∧ k ≤ c ∧ s = .int .i64 k) (fun s => c - (intOf s).toNat)
    case atStart => exact ⟨1, by omega, by omega, rfl⟩
    case round =>
      obtain ⟨k, hk1, hk, rfl⟩ := hrel
      have x1 : decide ((k : Int) ≤ 10) = true := decide_eq_true (by omega)
      by_cases e : k = c
      · subst e
        have x2 : ((k : Int) == (k : Int)) = true := by simp
        go_wp2_with fail
        go_ret
        exact ⟨rfl, rfl⟩
      · have x2 : ((c : Int) == (k : Int)) = false := beq_eq_false_iff_ne.2 (by omega)
        go_wp2_with fail
        go_round
        case rel => exact ⟨k + 1, by omega, by omega, by go_num⟩
        case measure => simp [intOf]; omega
/-- What a value's adding comes to: an error's number, and the values then. -/
def RelAdd (t : Tb) (l : List PtW) (ok : Bool) (n : Nm) (kd time val mark : Int) (c : Nat) (l' : List PtW) : Prop :=
  (c = 1 ∧ l' = l ∧ ¬ AskT ok kd time) ∨
  (c = 8 ∧ l' = l ∧ AskT ok kd time ∧ startOf t.wd time + t.wd ≤ mark) ∨
  (c = 6 ∧ l' = l ∧ AskT ok kd time ∧ ¬ startOf t.wd time + t.wd ≤ mark ∧ fullW t n (startOf t.wd time) l) ∨
  (c = 0 ∧ l' = l ++ [⟨startOf t.wd time, n, val⟩] ∧ AskT ok kd time ∧ ¬ startOf t.wd time + t.wd ≤ mark ∧ ¬ fullW t n (startOf t.wd time) l)
section
variable {t : Tb} {l l' l'' : List PtW} {ok : Bool} {n : Nm} {kd time val mark : Int} {c c' : Nat}
theorem RelAdd.fn (h : RelAdd t l ok n kd time val mark c l') (k : RelAdd t l ok n kd time val mark c' l'') : c = c' ∧ l' = l'' := by
  rcases h with ⟨rfl, rfl, a⟩ | ⟨rfl, rfl, a, b⟩ | ⟨rfl, rfl, a, b, d⟩ | ⟨rfl, rfl, a, b, d⟩ <;>
    rcases k with ⟨rfl, rfl, a'⟩ | ⟨rfl, rfl, a', b'⟩ | ⟨rfl, rfl, a', b', d'⟩ | ⟨rfl, rfl, a', b', d'⟩ <;>
    first
      | exact ⟨rfl, rfl⟩
      | exact absurd a' a
      | exact absurd a a'
      | exact absurd b b'
      | exact absurd b' b
      | exact absurd d d'
      | exact absurd d' d
theorem RelAdd.le (h : RelAdd t l ok n kd time val mark c l') : c ≤ 10 := by
  rcases h with ⟨rfl, _⟩ | ⟨rfl, _⟩ | ⟨rfl, _⟩ | ⟨rfl, _⟩ <;> omega
theorem RelAdd.len (h : RelAdd t l ok n kd time val mark c l') : l'.length ≤ l.length + 1 := by
  rcases h with ⟨_, rfl, _⟩ | ⟨_, rfl, _⟩ | ⟨_, rfl, _⟩ | ⟨_, rfl, _⟩
  · omega
  · omega
  · omega
  · rw [List.length_append, List.length_singleton]; omega
theorem RelAdd.lok {key : ByteArray} (h : RelAdd t l (keyOk key) (key, kd) kd time val mark c l') (hl : LOk t.wd l) (hw : 1 ≤ t.wd) (hv : In64 val) : LOk t.wd l' := by
  rcases h with ⟨_, rfl, _⟩ | ⟨_, rfl, _⟩ | ⟨_, rfl, _⟩ | ⟨_, rfl, ask, _⟩
  · exact hl
  · exact hl
  · exact hl
  · exact hl.add hw ask hv
theorem RelAdd.cap (h : RelAdd t l ok n kd time val mark c l') (hc : CapW t l) : CapW t l' := by
  rcases h with ⟨_, rfl, _⟩ | ⟨_, rfl, _⟩ | ⟨_, rfl, _⟩ | ⟨_, rfl, _, _, nf⟩
  · exact hc
  · exact hc
  · exact hc
  · exact hc.next nf
theorem AddP.rel {N : Nat} {w w' : World} {a bm : Nat} {e : Ending} (h : AddP N w a bm t l ok n kd time val mark e w') :
    ∃ (c : Nat) (l' : List PtW), e = .returned (errC c) ∧ RelAdd t l ok n kd time val mark c l' ∧ GotP N w a bm t l' w' := by
  rcases h with ⟨h0, h1, h2⟩ | ⟨h0, hm, h1, h2⟩ | ⟨h0, hm, hf, h1, h2⟩ | ⟨h0, hm, hf, h1, h2⟩
  · exact ⟨1, l, h1, .inl ⟨rfl, rfl, h0⟩, h2⟩
  · exact ⟨8, l, h1, .inr (.inl ⟨rfl, rfl, h0, hm⟩), h2⟩
  · exact ⟨6, l, h1, .inr (.inr (.inl ⟨rfl, rfl, h0, hm, hf⟩)), h2⟩
  · exact ⟨0, _, h1, .inr (.inr (.inr ⟨rfl, rfl, h0, hm, hf⟩)), h2⟩
/-- The document's Add, all ways together. -/
theorem ref_addAll (base : Nat) (w : World) (b : Nat) (A : Option Addr) (c0 : Nat) (h : Tr base w b t A c0 l) (hX : base ≤ w.heap.size) (hl : l.length ≤ 99) (hp : ∀ p ∈ l, PtOk p) (hg : GoodU t) (key : ByteArray) (hs : key.size ≤ 9223372036854775807) :
    Calls Tryz.prog 16 #[.pointer (some ⟨b, 0, none⟩), .int .i64 mark, .string key, .int .i64 kd, .int .i64 val, .int .i64 time] w fun e w' =>
      ∃ (c : Nat) (l' : List PtW), e = .returned (.int .i64 (c : Nat)) ∧ RelAdd t l (keyOk key) (key, kd) kd time val mark c l' ∧ (∃ A c, Tr base w' b t A c l') ∧ Keeps (fun g => g = b) w w' := by
  have CO : ∀ w, Calls Tryz.prog 31 #[.string key] w (OfTold w (keyOk key)) := fun w => refOf key w hs
  by_cases ha : AskT (keyOk key) kd time
  · refine (ref_add base w b t A c0 l h hX hl hp hg mark kd val time key (keyOk key) CO ha).mono ?_
    rintro e w' (⟨hm, k⟩ | ⟨hm, hf, k⟩ | ⟨hm, hf, k⟩)
    · exact ⟨8, l, k.e, .inr (.inl ⟨rfl, rfl, ha, hm⟩), k.tr, k.kp⟩
    · exact ⟨6, l, k.e, .inr (.inr (.inl ⟨rfl, rfl, ha, hm, hf⟩)), k.tr, k.kp⟩
    · exact ⟨0, _, k.e, .inr (.inr (.inr ⟨rfl, rfl, ha, hm, hf⟩)), k.tr, k.kp⟩
  · refine (ref_add_bad base w b t A c0 l h mark kd val time key (keyOk key) CO ha).mono ?_
    intro e w' k
    exact ⟨1, l, k.e, .inl ⟨rfl, rfl, ha⟩, k.tr, k.kp⟩
end

/-- Both tables, in blocks that are newer than W. -/
structure Bo (W : World) (N b base : Nat) (w : World) (a bm : Nat) (tp tr : Tb) (pp pr : List PtW) : Prop where
  tq : ∃ blk, Tq N w a bm tp pp blk
  tr : ∃ A c, Tr base w b tr A c pr
  bel : Below W.heap.size W w
  n1 : W.heap.size ≤ N
  n2 : N ≤ w.heap.size
  b1 : W.heap.size ≤ b
  b2 : base ≤ w.heap.size
section
variable {W w w' : World} {N b base a bm : Nat} {tp tr tp' tr' : Tb} {pp pr pp' pr' : List PtW}
theorem Bo.still (h : Bo W N b base w a bm tp tr pp pr) (k : Below w.heap.size w w') : Bo W N b base w' a bm tp tr pp pr := by
  obtain ⟨blk, h1⟩ := h.tq
  obtain ⟨A, c, h2⟩ := h.tr
  have := k.size
  exact ⟨⟨blk, h1.below k⟩, ⟨A, c, h2.still k⟩, h.bel.trans (k.mono h.bel.size), h.n1, by have := h.n2; omega, h.b1, by have := h.b2; omega⟩
theorem Bo.drewN (h : Bo W N b base w a bm tp tr pp pr) (n : Nat) : Bo W N b base (w.drewN n) a bm tp tr pp pr := h.still (below_drewN w n)
theorem Tr.kq {A : Option Addr} {c : Nat} {l : List PtW} {t : Tb} (h : Tr base w b t A c l) (k : Kq N w w') : Tr base w' b t A c l := by
  have hb : ¬ MutW N w b := fun hm => by
    rcases hm.2 with ⟨es, cl, e⟩ | ⟨cs, f, e⟩
    · rw [h.blk] at e; cases e
    · rw [h.blk] at e
      injection e with e
      injection e with _ e _
      exact absurd e (by decide)
  refine ⟨by rw [k.block b h.lt hb]; exact h.blk, owns_keeps h.own k (fun g hg hm => ?_)⟩
  obtain ⟨cs', f', hb⟩ := owns_block h.own g hg
  rcases hm.2 with ⟨es, cl, e⟩ | ⟨cs, f, e⟩
  · rw [hb] at e; cases e
  · rw [hb] at e
    injection e with e
    injection e with _ e _
    exact absurd e (by decide)
theorem Bo.turnP (h : Bo W N b base w a bm tp tr pp pr) (g : GotP N w a bm tp' pp' w') : Bo W N b base w' a bm tp' tr pp' pr := by
  obtain ⟨A, c, h2⟩ := h.tr
  obtain ⟨blk, h1, k⟩ := g
  have := k.size
  exact ⟨⟨blk, h1⟩, ⟨A, c, h2.kq k⟩, h.bel.trans ((k.blw h.n2).mono h.n1), h.n1, by have := h.n2; omega, h.b1, by have := h.b2; omega⟩
theorem tr_off {A : Option Addr} {c : Nat} {l : List PtW} {t : Tb} (h : Tr base w b t A c l) : ∀ g, g = b → (¬ ∃ es c, w.heap[g]? = some (.map es c)) ∧ (∀ c f, w.heap[g]? ≠ some (.cells c 59 f)) ∧ ∀ c f, w.heap[g]? ≠ some (.cells c 51 f) := fun g e => by
  subst e
  refine ⟨fun ⟨es, cl, e⟩ => ?_, fun cs f e => ?_, fun cs f e => ?_⟩
  · rw [h.blk] at e; cases e
  · rw [h.blk] at e
    injection e with e
    injection e with _ e _
    exact absurd e (by decide)
  · rw [h.blk] at e
    injection e with e
    injection e with _ e _
    exact absurd e (by decide)
theorem Bo.turnR (h : Bo W N b base w a bm tp tr pp pr) (g : ∃ A c, Tr base w' b tr' A c pr') (k : Keeps (fun g => g = b) w w') : Bo W N b base w' a bm tp tr' pp pr' := by
  obtain ⟨A, c, h2⟩ := h.tr
  obtain ⟨blk, h1⟩ := h.tq
  have := k.size
  exact ⟨⟨blk, h1.off k (tr_off h2)⟩, g, h.bel.trans (k.below (fun g e => by subst e; exact h.b1) h.bel.size), h.n1, by have := h.n2; omega, h.b1, by have := h.b2; omega⟩
end
/-- .. with a deed laid at block x. -/
structure Bd (W : World) (N b base : Nat) (x : Nat) (d : DeedW) (w : World) (a bm : Nat) (tp tr : Tb) (pp pr : List PtW) : Prop where
  bo : Bo W N b base w a bm tp tr pp pr
  o : w.heap[x]? = some (.cells #[.bool d.b, .int .i64 d.mark, .string d.key, .int .i64 d.kind, .int .i64 d.val, .int .i64 d.time] 36 (0, 0))
/-- The cells that a round reads. -/
structure DcW (x : Nat) (d : DeedW) (w : World) : Prop where
  c0 : w.cell? ⟨x, 0, none⟩ = some (.bool d.b)
  c1 : w.cell? ⟨x, 1, none⟩ = some (.int .i64 d.mark)
  c2 : w.cell? ⟨x, 2, none⟩ = some (.string d.key)
  c3 : w.cell? ⟨x, 3, none⟩ = some (.int .i64 d.kind)
  c4 : w.cell? ⟨x, 4, none⟩ = some (.int .i64 d.val)
  c5 : w.cell? ⟨x, 5, none⟩ = some (.int .i64 d.time)
/-- What a table keeps to. -/
structure InvT (t : Tb) (l : List PtW) : Prop where
  lok : LOk t.wd l
  cap : CapW t l
  u : GoodU t
  len : l.length ≤ 99
  q0 : 0 ≤ t.sq
  q1 : t.sq ≤ 2000000
section
variable {W w w' : World} {N b base x a bm : Nat} {d : DeedW} {tp tr tp' tr' t : Tb} {pp pr pp' pr' : List PtW}
theorem Bd.cells (h : Bd W N b base x d w a bm tp tr pp pr) : w.cell? ⟨x, 0, none⟩ = some (.bool d.b) ∧ w.cell? ⟨x, 1, none⟩ = some (.int .i64 d.mark) ∧ w.cell? ⟨x, 2, none⟩ = some (.string d.key) ∧ w.cell? ⟨x, 3, none⟩ = some (.int .i64 d.kind) ∧ w.cell? ⟨x, 4, none⟩ = some (.int .i64 d.val) ∧ w.cell? ⟨x, 5, none⟩ = some (.int .i64 d.time) :=
  ⟨cell_of_block h.o, cell_of_block h.o, cell_of_block h.o, cell_of_block h.o, cell_of_block h.o, cell_of_block h.o⟩
theorem Bd.still (h : Bd W N b base x d w a bm tp tr pp pr) (k : Below w.heap.size w w') : Bd W N b base x d w' a bm tp tr pp pr := ⟨h.bo.still k, by rw [k.block x (lt_of_block h.o)]; exact h.o⟩
theorem Bd.drew (h : Bd W N b base x d w a bm tp tr pp pr) : Bd W N b base x d w.drew a bm tp tr pp pr := ⟨h.bo.drewN 1, h.o⟩
theorem Bd.drewN (h : Bd W N b base x d w a bm tp tr pp pr) (n : Nat) : Bd W N b base x d (w.drewN n) a bm tp tr pp pr := ⟨h.bo.drewN n, h.o⟩
theorem Bd.turnP (h : Bd W N b base x d w a bm tp tr pp pr) (g : GotP N w a bm tp' pp' w') : Bd W N b base x d w' a bm tp' tr pp' pr := by
  refine ⟨h.bo.turnP g, ?_⟩
  obtain ⟨blk, h1, k⟩ := g
  rw [k.block x (lt_of_block h.o) (fun hm => ?_)]
  · exact h.o
  · rcases hm.2 with ⟨es, cl, e⟩ | ⟨cs, f, e⟩
    · rw [h.o] at e; cases e
    · rw [h.o] at e
      injection e with e
      injection e with _ e _
      exact absurd e (by decide)
theorem Bd.turnR (h : Bd W N b base x d w a bm tp tr pp pr) (g : ∃ A c, Tr base w' b tr' A c pr') (k : Keeps (fun g => g = b) w w') : Bd W N b base x d w' a bm tp tr' pp pr' := by
  refine ⟨h.bo.turnR g k, ?_⟩
  have hx : x ≠ b := fun e => by
    obtain ⟨A, c, h2⟩ := h.bo.tr
    have e' := h2.blk
    rw [← e, h.o] at e'
    injection e' with e'
    injection e' with _ e' _
    exact absurd e' (by decide)
  rw [k.block x (lt_of_block h.o) hx]
  exact h.o
/-- Due, of either. -/
theorem due_P (h : Bd W N b base x d w a bm t tr pp pr) (i : InvT t pp) (mark : Int) :
    Calls Tryz.prog 9 #[.pointer (some ⟨a, 0, none⟩), .int .i64 mark] w fun e w' => e = .returned (.int .i64 (dueW t.wd mark (startsW pp) : Nat)) ∧ Bd W N b base x d w' a bm t tr pp pr := by
  obtain ⟨blk, h1⟩ := h.bo.tq
  refine (due_walk20 h1 (by have := i.len; omega) i.lok.bd i.u.w1 i.u.w2 mark).mono ?_
  rintro e w' ⟨rfl, k⟩
  exact ⟨rfl, h.still k⟩
theorem due_R (h : Bd W N b base x d w a bm tp t pp pr) (i : InvT t pr) (mark : Int) :
    Calls Tryz.prog 10 #[.pointer (some ⟨b, 0, none⟩), .int .i64 mark] w fun e w' => e = .returned (.int .i64 (dueW t.wd mark (startsW pr) : Nat)) ∧ Bd W N b base x d w' a bm tp t pp pr := by
  obtain ⟨A, c, h1⟩ := h.bo.tr
  refine (ref_due base w b t A c pr h1 (by have := i.len; omega) (fun p hp => ⟨(i.lok.st p hp).1, (i.lok.st p hp).2.1⟩) i.u.w1 i.u.w2 mark).mono ?_
  rintro e w' ⟨rfl, k⟩
  exact ⟨rfl, h.still k⟩
/-- Add, of either. -/
theorem add_P (h : Bd W N b base x d w a bm t tr pp pr) (i : InvT t pp) (hL : Laid W) (hk : d.key.size ≤ 400) (hv : In64 d.val) :
    Calls Tryz.prog 15 #[.pointer (some ⟨a, 0, none⟩), .int .i64 d.mark, .string d.key, .int .i64 d.kind, .int .i64 d.val, .int .i64 d.time] w fun e w' =>
      ∃ (c : Nat) (l' : List PtW), e = .returned (errC c) ∧ RelAdd t pp (keyOk d.key) (d.key, d.kind) d.kind d.time d.val d.mark c l' ∧ Bd W N b base x d w' a bm t tr l' pr := by
  obtain ⟨blk, h1⟩ := h.bo.tq
  refine (add_walk20 h1 (hL.below h.bo.bel) (by omega) i.u i.cap hv (by have := i.len; omega) i.lok.pt).mono ?_
  intro e w' k
  obtain ⟨c, l', he, hr, hg⟩ := k.rel
  exact ⟨c, l', he, hr, h.turnP hg⟩
theorem add_R (h : Bd W N b base x d w a bm tp t pp pr) (i : InvT t pr) (hk : d.key.size ≤ 400) :
    Calls Tryz.prog 16 #[.pointer (some ⟨b, 0, none⟩), .int .i64 d.mark, .string d.key, .int .i64 d.kind, .int .i64 d.val, .int .i64 d.time] w fun e w' =>
      ∃ (c : Nat) (l' : List PtW), e = .returned (.int .i64 (c : Nat)) ∧ RelAdd t pr (keyOk d.key) (d.key, d.kind) d.kind d.time d.val d.mark c l' ∧ Bd W N b base x d w' a bm tp t pp l' := by
  obtain ⟨A, c0, h1⟩ := h.bo.tr
  refine (ref_addAll base w b A c0 h1 h.bo.b2 i.len i.lok.pt i.u d.key (by omega)).mono ?_
  rintro e w' ⟨c, l', he, hr, hg, hk⟩
  exact ⟨c, l', he, hr, h.turnR hg hk⟩
end
end Go.Proofs.YtedhciolnekpaaaGreatDoor
