/-
  Layer 9 (journal), what is of no program: a record's bytes, records one behind another and what is read of them, also where they are torn; a journal's parts and records, and what an append makes of them.
  Layers 9 and 21 (journal, spill): texts in a row of one's own; a journal in memory: its own block, the row of its parts' numbers, the row of its records, beside a disk.
  Layer 9 (journal): First, Next, last, lastHasEnough, Record, a record's bytes, Sync.
-/
import Derived.Test.YtgeahpfdaehjaaaGreatDoorGrpA
import Derived.Test.YtgeahpfdaehjaaaGreatDoorGrpB
import Derived.Test.YtgeahpfdaehjaaaGreatDoorGrpC
import Derived.Test.YtgeahpfdaehjaaaGreatDoorGrpM
import Derived.Deep.RegionLaw
import Derived.Deep.RegionWith
import Derived.Deep.QuietTactic
import Derived.BigQuiet
import Derived.IntWalk
namespace Go.Proofs.YtgeahpfdaehjaaaGreatDoor
set_option linter.unusedVariables false

abbrev Rc := List UInt8
def encR (r : Rc) : List UInt8 := enc r.length ++ r
def flat : List Rc → List UInt8
  | [] => []
  | r :: l => encR r ++ flat l
def GoodR (r : Rc) : Prop := 1 ≤ r.length ∧ r.length ≤ 4096
theorem encT_arr (r : Rc) : encT ⟨r.toArray⟩ = encR r := by
  unfold encT encR
  simp [ByteArray.size]
theorem flat_app : ∀ (x y : List Rc), flat (x ++ y) = flat x ++ flat y
  | [], y => rfl
  | r :: x, y => by rw [List.cons_append, flat, flat, flat_app x y, List.append_assoc]
theorem flat_one (r : Rc) : flat [r] = encR r := by simp [flat]
theorem flat_snoc (x : List Rc) (r : Rc) : flat (x ++ [r]) = flat x ++ encR r := by rw [flat_app, flat_one]
theorem encR_length {r : Rc} (h : GoodR r) : (encR r).length ≤ r.length + 10 := by
  have := enc_length r.length (by have := h.2; omega)
  unfold encR
  rw [List.length_append]; omega
theorem encR_pos (r : Rc) : 0 < (encR r).length := by
  have := enc_pos r.length
  unfold encR
  rw [List.length_append]; omega
/-- No whole record stands at the head. -/
def Torn (t : List UInt8) : Prop := ∀ n k, decF 0 0 t = some (n, k) → n = 0 ∨ 4096 < n ∨ t.length - k < n
theorem torn_nil : Torn [] := fun n k h => by rw [dec_nil] at h; cases h
theorem read_next (x : List Rc) (r : Rc) (rest : List UInt8) (h : GoodR r) :
    rsText (flat x ++ (encR r ++ rest)) 4096 ⟨(flat x).length, false⟩ = (r, ⟨(flat (x ++ [r])).length, false⟩) := by
  have h1 := h.1
  have h2 := h.2
  have hd : decF 0 0 (encR r ++ rest) = some (r.length, (enc r.length).length) := by
    have := dec_enc r.length 0 0 (r ++ rest) (by omega) (by simp; omega) (by omega)
    unfold encR
    rw [List.append_assoc, this]
    simp
  unfold rsText
  simp only [Bool.false_eq_true, if_false, List.drop_left, hd]
  have e1 : (flat x ++ (encR r ++ rest)).length - ((flat x).length + (enc r.length).length) = r.length + rest.length := by
    unfold encR
    simp only [List.length_append]; omega
  rw [if_neg (by rw [e1]; omega)]
  congr 1
  · rw [← List.drop_drop, List.drop_left]
    unfold encR
    rw [List.append_assoc, List.drop_left, List.take_left]
  · rw [flat_snoc, List.length_append]
    unfold encR
    rw [List.length_append, Nat.add_assoc]
theorem read_torn (x : List Rc) (t : List UInt8) (h : Torn t) : (rsText (flat x ++ t) 4096 ⟨(flat x).length, false⟩).1 = [] := by
  unfold rsText
  simp only [Bool.false_eq_true, if_false, List.drop_left]
  cases hd : decF 0 0 t with
  | none => rfl
  | some p =>
    obtain ⟨n, k⟩ := p
    simp only
    split
    · rfl
    · rename_i hc
      rcases h n k hd with e | e | e
      · subst e; simp
      · omega
      · rw [List.length_append] at hc; omega
theorem dec_short : ∀ (l : List UInt8) (i a : Nat) (z : List UInt8) (p : Nat × Nat), decF i a l = some p → decF i a (l ++ z) = some p
  | [], i, a, z, p, h => by rw [dec_nil] at h; cases h
  | c :: l, i, a, z, p, h => by
    rw [dec_cons] at h
    rw [List.cons_append, dec_cons]
    unfold decStep at h ⊢
    split
    · rename_i h1; rw [if_pos h1] at h; cases h
    · rename_i h1
      rw [if_neg h1] at h
      split
      · rename_i h2
        rw [if_pos h2] at h
        exact h
      · rename_i h2
        rw [if_neg h2] at h
        exact dec_short l _ _ z p h
theorem torn_take {r : Rc} (h : GoodR r) (z : List UInt8) {m : Nat} (hm : m < (encR r).length) : Torn ((encR r ++ z).take m) := by
  intro n k hd
  have h1 := h.1
  have h2 := h.2
  have e1 : (encR r ++ z).take m = (encR r).take m := by rw [List.take_append_of_le_length (by omega)]
  rw [e1] at hd ⊢
  have hs := dec_short _ 0 0 ((encR r).drop m) _ hd
  rw [List.take_append_drop] at hs
  have hg : decF 0 0 (encR r) = some (0 + r.length * 128 ^ 0, 0 + (enc r.length).length) := dec_enc r.length 0 0 r (by omega) (by simp; omega) (by omega)
  rw [hg] at hs
  cases hs
  refine .inr (.inr ?_)
  rw [List.length_take]
  unfold encR at hm ⊢
  rw [List.length_append] at hm ⊢
  simp
  omega
theorem cut_records : ∀ (rs : List Rc), (∀ r ∈ rs, GoodR r) → ∀ (m : Nat), ∃ q t, q ≤ rs.length ∧ (flat rs).take m = flat (rs.take q) ++ t ∧ Torn t ∧ ∀ j, j ≤ rs.length → (flat (rs.take j)).length ≤ m → j ≤ q
  | [], _, m => ⟨0, [], by simp, by simp [flat], torn_nil, fun j hj _ => hj⟩
  | r :: rs, h, m => by
    have hr := h r (by simp)
    by_cases hm : (encR r).length ≤ m
    · obtain ⟨q, t, h1, h2, h3, h4⟩ := cut_records rs (fun x hx => h x (by simp [hx])) (m - (encR r).length)
      refine ⟨q + 1, t, by simp [h1], ?_, h3, fun j hj hl => ?_⟩
      · rw [flat, List.take_append, List.take_of_length_le hm, h2, List.take_succ_cons, flat, List.append_assoc]
      · cases j with
        | zero => omega
        | succ j =>
          rw [List.take_succ_cons, flat, List.length_append] at hl
          have := h4 j (by simpa using hj) (by omega)
          omega
    · refine ⟨0, (encR r ++ flat rs).take m, by simp, by simp [flat], torn_take hr _ (by omega), fun j hj hl => ?_⟩
      cases j with
      | zero => omega
      | succ j =>
        rw [List.take_succ_cons, flat, List.length_append] at hl
        omega

/-! ### a journal: its parts' numbers P, its records R -/
def jFirst (P : List Int) : Int := P.headD 0
def jNext (P : List Int) (R : List Rc) : Int := jFirst P + (R.length : Nat)
def jLast (P : List Int) : Int := P.getLastD 0
def jSync (dn : Bool) (L : List Pt) (P : List Int) : Nat × List Pt := if P = [] then (0, L) else opSync dn L (jLast P)
def jFull (many : Int) (P : List Int) (R : List Rc) : Bool := decide (P = []) || decide (many ≤ jNext P R - jLast P)
structure Jr where
  c : Nat
  L : List Pt
  P : List Int
  R : List Rc
def jBegin (rm : Nat) (dn : Bool) (L : List Pt) (P : List Int) (R : List Rc) (b : Rc) : Jr :=
  if (jSync dn L P).1 = 0 then
    (if (opAppend rm dn (jSync dn L P).2 (jNext P R) (encR b)).1 = 0 then ⟨0, (opAppend rm dn (jSync dn L P).2 (jNext P R) (encR b)).2, P ++ [jNext P R], R ++ [b]⟩
     else ⟨(opAppend rm dn (jSync dn L P).2 (jNext P R) (encR b)).1, (opAppend rm dn (jSync dn L P).2 (jNext P R) (encR b)).2, P, R⟩)
  else ⟨(jSync dn L P).1, (jSync dn L P).2, P, R⟩
def jAppend (rm : Nat) (dn : Bool) (many : Int) (L : List Pt) (P : List Int) (R : List Rc) (b : Rc) : Jr :=
  if jFull many P R = true then jBegin rm dn L P R b
  else if (opAppend rm dn L (jLast P) (encR b)).1 = 0 then ⟨0, (opAppend rm dn L (jLast P) (encR b)).2, P, R ++ [b]⟩
  else ⟨(opAppend rm dn L (jLast P) (encR b)).1, (opAppend rm dn L (jLast P) (encR b)).2, P, R⟩

/-! ### a part as its records, and what is torn behind them -/
structure Sg where
  n : Int
  rs : List Rc
  t : List UInt8
  s : Nat
def Sg.pt (g : Sg) : Pt := ⟨g.n, flat g.rs ++ g.t, g.s⟩
def Sg.cut (g : Sg) : Pt := ⟨g.n, flat g.rs, (flat g.rs).length⟩
def recs (G : List Sg) : List Rc := (G.map (·.rs)).flatten
def Chain : Int → List Sg → Prop
  | _, [] => True
  | n, g :: G => g.n = n ∧ Chain (n + (g.rs.length : Nat)) G
structure Sg.Good (g : Sg) : Prop where
  good : ∀ r ∈ g.rs, GoodR r
  torn : Torn g.t
theorem recs_nil : recs [] = [] := rfl
theorem recs_cons (g : Sg) (G : List Sg) : recs (g :: G) = g.rs ++ recs G := rfl
theorem recs_app (G H : List Sg) : recs (G ++ H) = recs G ++ recs H := by unfold recs; rw [List.map_append, List.flatten_append]
end Go.Proofs.YtgeahpfdaehjaaaGreatDoor
namespace Go.Proofs.YtgeahpfdaehjaaaGreatDoor
open Go.ChangeShapes Go.WideShapes Go.ChangeAt Go.RowKit
set_option linter.unusedVariables false

def encS (r : Rc) : Value := .string ⟨r.toArray⟩
/-- Texts in a row of one's own. -/
def OS (w : World) (B : Nat) (v : Value) (l : List Rc) : Prop := w.ownsRow B 9 1 v l.length (l.map encS)
theorem add_int {w : World} {B : Nat} {v : Value} {l : List Int} (h : OI w B v l) (x : Int) (hl : l.length ≤ 100000) (hB : B ≤ w.heap.size) :
    ∃ v' w', (Builtin.append_ #[109, 109] 109 #[v, .slice (some ⟨w.heap.size, 0, none⟩) 1 1]).run Tryz.prog (w.alloc (.cells #[.int .i64 x] 3)) = .ok v' w' ∧ OI w' B v' (l ++ [x]) ∧ (w.alloc (.cells #[.int .i64 x] 3)).grownBy w' v.ownBlock ∧ (v'.ownBlock = v.ownBlock ∨ v'.ownBlock = some (w.heap.size + 1)) := by
  obtain ⟨v', w', h1, h2, h3, h4⟩ := row_grow (w := w.alloc (.cells #[.int .i64 x] 3)) (ty := 109) Tryz.underlying109 infoI rfl (World.ownsRow.alloc h _) (A := some ⟨w.heap.size, 0, none⟩) (m := 1) (cap := 1) (news := [.int .i64 x]) rfl (fun e => by cases e) (fun ad ha j u hu => by cases ha; exact one_cell hu) (fun u hu => by simp only [List.mem_singleton] at hu; subst hu; rfl) (by omega) (by omega) (by simp; omega)
  exact ⟨v', w', h1, by unfold OI; rw [List.map_append, List.length_append]; exact h2, h3, by simpa using h4⟩
theorem add_str {w : World} {B : Nat} {v : Value} {l : List Rc} (h : OS w B v l) (x : Rc) (hl : l.length ≤ 100000) (hB : B ≤ w.heap.size) :
    ∃ v' w', (Builtin.append_ #[107, 107] 107 #[v, .slice (some ⟨w.heap.size, 0, none⟩) 1 1]).run Tryz.prog (w.alloc (.cells #[encS x] 9)) = .ok v' w' ∧ OS w' B v' (l ++ [x]) ∧ (w.alloc (.cells #[encS x] 9)).grownBy w' v.ownBlock ∧ (v'.ownBlock = v.ownBlock ∨ v'.ownBlock = some (w.heap.size + 1)) := by
  obtain ⟨v', w', h1, h2, h3, h4⟩ := row_grow (w := w.alloc (.cells #[encS x] 9)) (ty := 107) Tryz.underlying107 infoS rfl (World.ownsRow.alloc h _) (A := some ⟨w.heap.size, 0, none⟩) (m := 1) (cap := 1) (news := [encS x]) rfl (fun e => by cases e) (fun ad ha j u hu => by cases ha; exact one_cell hu) (fun u hu => by simp only [List.mem_singleton] at hu; subst hu; rfl) (by omega) (by omega) (by simp; omega)
  exact ⟨v', w', h1, by unfold OS; rw [List.map_append, List.length_append]; exact h2, h3, by simpa using h4⟩
theorem os_shape {w : World} {B : Nat} {v : Value} {l : List Rc} (h : OS w B v l) : ∃ A cap, v = .slice A l.length cap ∧ (A = none → cap = 0 ∧ l = []) ∧ (∀ ad, A = some ad → ad = ⟨ad.block, 0, none⟩ ∧ ∀ j r, l[j]? = some r → w.cell? (ad.add j) = some (encS r)) := by
  obtain ⟨A, cap, e, h1, h2⟩ := owns_view h
  exact ⟨A, cap, e, fun ha => ⟨(h1 ha).1, by simpa using (h1 ha).2⟩, fun ad ha => ⟨(h2 ad ha).1, fun j r hr => (h2 ad ha).2 j _ (by rw [List.getElem?_map, hr]; rfl)⟩⟩
/-- Texts that lie in a row of their own appended to another such row. -/
theorem add_strs {w : World} {B B' : Nat} {v y : Value} {l x : List Rc} (h : OS w B v l) (hy : OS w B' y x) (hl : l.length + x.length ≤ 1000000) (hB : B ≤ w.heap.size) :
    ∃ v' w', (Builtin.append_ #[107, 107] 107 #[v, y]).run Tryz.prog w = .ok v' w' ∧ OS w' B v' (l ++ x) ∧ w.grownBy w' v.ownBlock := by
  obtain ⟨A, cap, rfl, h1, h2⟩ := owns_view hy
  obtain ⟨v', w', g1, g2, g3, _⟩ := row_grow (ty := 107) Tryz.underlying107 infoS rfl h (A := A) (m := x.length) (cap := cap) (news := x.map encS) (by simp) h1 (fun ad ha => (h2 ad ha).2) (fun u hu => by obtain ⟨r, _, rfl⟩ := List.mem_map.1 hu; rfl) hl (by omega) hB
  exact ⟨v', w', g1, by unfold OS; rw [List.map_append, List.length_append]; exact g2, g3⟩

/-! ### rows of one's own that may begin within their block (what a Trim leaves) -/
def PI (w : World) (B : Nat) (v : Value) (l : List Int) : Prop := OwnO w B 3 v l.length (l.map encZ)
def PS (w : World) (B : Nat) (v : Value) (l : List Rc) : Prop := OwnO w B 9 v l.length (l.map encS)
theorem PI.nil (w : World) (B : Nat) : PI w B (.slice none 0 0) [] := OwnO.nil w B _
theorem PS.nil (w : World) (B : Nat) : PS w B (.slice none 0 0) [] := OwnO.nil w B _
theorem addO_int {w : World} {B : Nat} {v : Value} {l : List Int} (h : PI w B v l) (x : Int) (hl : l.length ≤ 100000) (hB : B ≤ w.heap.size) :
    ∃ v' w', (Builtin.append_ #[109, 109] 109 #[v, .slice (some ⟨w.heap.size, 0, none⟩) 1 1]).run Tryz.prog (w.alloc (.cells #[.int .i64 x] 3)) = .ok v' w' ∧ PI w' B v' (l ++ [x]) ∧ (w.alloc (.cells #[.int .i64 x] 3)).grownBy w' v.ownBlock ∧ (v'.ownBlock = v.ownBlock ∨ v'.ownBlock = some (w.heap.size + 1)) := by
  obtain ⟨v', w', h1, h2, h3, h4⟩ := growO (w := w.alloc (.cells #[.int .i64 x] 3)) (ty := 109) Tryz.underlying109 infoI rfl (OwnO.below h ((Below.refl _ w).alloc (Nat.le_refl _) _)) (A := some ⟨w.heap.size, 0, none⟩) (m := 1) (cap := 1) (news := [.int .i64 x]) rfl (fun e => by cases e) (fun ad ha j u hu => by cases ha; exact one_cell hu) (fun u hu => by simp only [List.mem_singleton] at hu; subst hu; rfl) (by omega) (by omega) (by simp; omega)
  exact ⟨v', w', h1, by unfold PI; rw [List.map_append, List.length_append]; exact h2, h3, by simpa using h4⟩
theorem addO_str {w : World} {B : Nat} {v : Value} {l : List Rc} (h : PS w B v l) (x : Rc) (hl : l.length ≤ 100000) (hB : B ≤ w.heap.size) :
    ∃ v' w', (Builtin.append_ #[107, 107] 107 #[v, .slice (some ⟨w.heap.size, 0, none⟩) 1 1]).run Tryz.prog (w.alloc (.cells #[encS x] 9)) = .ok v' w' ∧ PS w' B v' (l ++ [x]) ∧ (w.alloc (.cells #[encS x] 9)).grownBy w' v.ownBlock ∧ (v'.ownBlock = v.ownBlock ∨ v'.ownBlock = some (w.heap.size + 1)) := by
  obtain ⟨v', w', h1, h2, h3, h4⟩ := growO (w := w.alloc (.cells #[encS x] 9)) (ty := 107) Tryz.underlying107 infoS rfl (OwnO.below h ((Below.refl _ w).alloc (Nat.le_refl _) _)) (A := some ⟨w.heap.size, 0, none⟩) (m := 1) (cap := 1) (news := [encS x]) rfl (fun e => by cases e) (fun ad ha j u hu => by cases ha; exact one_cell hu) (fun u hu => by simp only [List.mem_singleton] at hu; subst hu; rfl) (by omega) (by omega) (by simp; omega)
  exact ⟨v', w', h1, by unfold PS; rw [List.map_append, List.length_append]; exact h2, h3, by simpa using h4⟩
theorem ps_shape {w : World} {B : Nat} {v : Value} {l : List Rc} (h : PS w B v l) : ∃ A cap, v = .slice A l.length cap ∧ (A = none → cap = 0 ∧ l = []) ∧ (∀ ad, A = some ad → ad = ⟨ad.block, ad.off, none⟩ ∧ ∀ j r, l[j]? = some r → w.cell? (ad.add j) = some (encS r)) := by
  obtain ⟨A, cap, e, _, h1, h2⟩ := OwnO.view h
  exact ⟨A, cap, e, fun ha => ⟨(h1 ha).1, by simpa using (h1 ha).2⟩, fun ad ha => ⟨(h2 ad ha).1, fun j r hr => (h2 ad ha).2 j _ (by rw [List.getElem?_map, hr]; rfl)⟩⟩
theorem pi_shape {w : World} {B : Nat} {v : Value} {l : List Int} (h : PI w B v l) : ∃ A cap, v = .slice A l.length cap ∧ (∀ (i : Nat) (n : Int), l[i]? = some n → ∃ g o, A = some ⟨g, o, none⟩ ∧ w.cell? ⟨g, o + i, none⟩ = some (.int .i64 n)) := by
  obtain ⟨A, cap, e, _, h1, h2⟩ := OwnO.view h
  refine ⟨A, cap, e, fun i n hn => ?_⟩
  cases A with
  | none =>
    have h0 := (h1 rfl).2
    cases l with
    | nil => cases hn
    | cons a b => cases h0
  | some ad =>
    obtain ⟨h3, h4⟩ := h2 ad rfl
    have h5 := h4 i (.int .i64 n) (by rw [List.getElem?_map, hn]; rfl)
    rw [h3, Addr.add_lit] at h5
    exact ⟨ad.block, ad.off, by rw [h3], h5⟩
/-- Texts that lie in a row of their own appended to the journal's. -/
theorem addO_strs {w : World} {B B' : Nat} {v y : Value} {l x : List Rc} (h : PS w B v l) (hy : OS w B' y x) (hl : l.length + x.length ≤ 1000000) (hB : B ≤ w.heap.size) :
    ∃ v' w', (Builtin.append_ #[107, 107] 107 #[v, y]).run Tryz.prog w = .ok v' w' ∧ PS w' B v' (l ++ x) ∧ w.grownBy w' v.ownBlock ∧ (v'.ownBlock = v.ownBlock ∨ v'.ownBlock = some w.heap.size) := by
  obtain ⟨A, cap, rfl, h1, h2⟩ := owns_view hy
  obtain ⟨v', w', g1, g2, g3, g4⟩ := growO (ty := 107) Tryz.underlying107 infoS rfl h (A := A) (m := x.length) (cap := cap) (news := x.map encS) (by simp) h1 (fun ad ha => (h2 ad ha).2) (fun u hu => by obtain ⟨r, _, rfl⟩ := List.mem_map.1 hu; rfl) hl (by omega) hB
  exact ⟨v', w', g1, by unfold PS; rw [List.map_append, List.length_append]; exact g2, g3, g4⟩

/-! ### a journal -/
def jrCells (ad : Nat) (many : Int) (vp vr : Value) : Array Value := #[.pointer (some ⟨ad, 0, none⟩), .int .i64 many, vp, vr]
/-- A journal behind a pointer at block aj: its disk, how many a part has, the rows of its parts' numbers and of its records. -/
structure JrG (w : World) (B ad aj : Nat) (many : Int) (vp vr : Value) (P : List Int) (R : List Rc) : Prop where
  blk : w.heap[aj]? = some (.cells (jrCells ad many vp vr) 111 (0, 0))
  lo : B ≤ aj
  pk : PI w B vp P
  rk : PS w B vr R
/-- The blocks that are its own. -/
def jfoot (aj : Nat) (vp vr : Value) (g : Nat) : Prop := g = aj ∨ vp.ownBlock = some g ∨ vr.ownBlock = some g
section
variable {w w' : World} {B ad aj : Nat} {many : Int} {vp vr : Value} {P : List Int} {R : List Rc}
theorem JrG.c0 (h : JrG w B ad aj many vp vr P R) : w.cell? ⟨aj, 0, none⟩ = some (.pointer (some ⟨ad, 0, none⟩)) := cell_of_block h.blk
theorem JrG.c1 (h : JrG w B ad aj many vp vr P R) : w.cell? ⟨aj, 1, none⟩ = some (.int .i64 many) := cell_of_block h.blk
theorem JrG.c2 (h : JrG w B ad aj many vp vr P R) : w.cell? ⟨aj, 2, none⟩ = some vp := cell_of_block h.blk
theorem JrG.c3 (h : JrG w B ad aj many vp vr P R) : w.cell? ⟨aj, 3, none⟩ = some vr := cell_of_block h.blk
theorem JrG.f (h : JrG w B ad aj many vp vr P R) (o : Nat) : w.frozen? ⟨aj, o, none⟩ = false := frozen_of_block h.blk
theorem JrG.lt (h : JrG w B ad aj many vp vr P R) : aj < w.heap.size := lt_of_block h.blk
theorem JrG.footlt (h : JrG w B ad aj many vp vr P R) {g : Nat} (hg : jfoot aj vp vr g) : g < w.heap.size := by
  rcases hg with rfl | e | e
  · exact h.lt
  · exact (OwnO.block h.pk e).2.1
  · exact (OwnO.block h.rk e).2.1
theorem JrG.footlo (h : JrG w B ad aj many vp vr P R) {g : Nat} (hg : jfoot aj vp vr g) : B ≤ g := by
  rcases hg with rfl | e | e
  · exact h.lo
  · exact (OwnO.block h.pk e).1
  · exact (OwnO.block h.rk e).1
theorem JrG.keeps {F : Nat → Prop} (h : JrG w B ad aj many vp vr P R) (k : Keeps F w w') (hF : ∀ g, jfoot aj vp vr g → ¬ F g) : JrG w' B ad aj many vp vr P R where
  blk := keeps_out k h.blk (hF aj (.inl rfl))
  lo := h.lo
  pk := OwnO.keeps h.pk k (fun g hg => hF g (.inr (.inl hg)))
  rk := OwnO.keeps h.rk k (fun g hg => hF g (.inr (.inr hg)))
theorem JrG.still (h : JrG w B ad aj many vp vr P R) (hb : Below w.heap.size w w') : JrG w' B ad aj many vp vr P R :=
  h.keeps (Keeps.of_below hb (Nat.le_refl _) (fun _ => False)) (fun _ _ e => e)
/-- A disk's blocks are of other kinds. -/
theorem JrG.apart {F : Nat → Prop} {a rm : Nat} {dn : Bool} {L : List Pt} (h : JrG w B ad aj many vp vr P R) (d : Dsk w F a rm dn L) {g : Nat} (hF : F g) : ¬ jfoot aj vp vr g := by
  obtain ⟨b, xs, hd, _, hf⟩ := d
  have key : ∀ {c : Array Value} {t : TypeId} {f : Nat × Nat}, w.heap[g]? = some (.cells c t f) → t = 74 ∨ t = 5 := by
    intro c t f hc
    rcases (hf g).1 hF with rfl | rfl | ⟨x, hx, e⟩
    · have := hd.blk; rw [hc] at this; cases this; exact .inl rfl
    · obtain ⟨es, cl, hb, _⟩ := hd.map; rw [hc] at hb; cases hb
    · obtain ⟨c', fz, hc'⟩ := (hd.own x hx).kind g e; rw [hc] at hc'; cases hc'; exact .inr rfl
  rintro (rfl | e | e)
  · rcases key h.blk with e | e <;> exact absurd e (by decide)
  · obtain ⟨_, _, c, hc⟩ := OwnO.block h.pk e
    rcases key hc with e | e <;> exact absurd e (by decide)
  · obtain ⟨_, _, c, hc⟩ := OwnO.block h.rk e
    rcases key hc with e | e <;> exact absurd e (by decide)
theorem JrG.setP (h : JrG w B ad aj many vp vr P R) {v' : Value} {P' : List Int} (hv : PI w B v' P') : JrG (w.setCell ⟨aj, 2, none⟩ v') B ad aj many v' vr P' R where
  blk := by rw [heap_set_same h.blk]; rfl
  lo := h.lo
  pk := OwnO.keeps (F := fun g => g = aj) hv ((Keeps.refl _ w).set _ _ (.inl rfl)) (fun g hg e => OwnO.off hv h.blk (by decide) (by rw [← e]; exact hg))
  rk := OwnO.keeps (F := fun g => g = aj) h.rk ((Keeps.refl _ w).set _ _ (.inl rfl)) (fun g hg e => OwnO.off h.rk h.blk (by decide) (by rw [← e]; exact hg))
theorem JrG.setR (h : JrG w B ad aj many vp vr P R) {v' : Value} {R' : List Rc} (hv : PS w B v' R') : JrG (w.setCell ⟨aj, 3, none⟩ v') B ad aj many vp v' P R' where
  blk := by rw [heap_set_same h.blk]; rfl
  lo := h.lo
  pk := OwnO.keeps (F := fun g => g = aj) h.pk ((Keeps.refl _ w).set _ _ (.inl rfl)) (fun g hg e => OwnO.off h.pk h.blk (by decide) (by rw [← e]; exact hg))
  rk := OwnO.keeps (F := fun g => g = aj) hv ((Keeps.refl _ w).set _ _ (.inl rfl)) (fun g hg e => OwnO.off hv h.blk (by decide) (by rw [← e]; exact hg))
/-- Its parts' row has grown (an append ran), and is not stored yet. -/
theorem JrG.grownP (h : JrG w B ad aj many vp vr P R) {w0 : World} {v' : Value} {P' : List Int} (hb : Below w.heap.size w w0) (hg : w0.grownBy w' vp.ownBlock) (hv : PI w' B v' P') :
    Keeps (jfoot aj vp vr) w (w'.setCell ⟨aj, 2, none⟩ v') ∧ w'.cell? ⟨aj, 2, none⟩ = some vp ∧ w'.cell? ⟨aj, 0, none⟩ = some (.pointer (some ⟨ad, 0, none⟩)) ∧ w'.cell? ⟨aj, 3, none⟩ = some vr ∧ w'.frozen? ⟨aj, 2, none⟩ = false ∧ JrG (w'.setCell ⟨aj, 2, none⟩ v') B ad aj many v' vr P' R := by
  have k1 : Keeps (fun g => vp.ownBlock = some g) w w' := (Keeps.of_below hb (Nat.le_refl _) _).trans (Keeps.of_grown (F := fun g => vp.ownBlock = some g) hg (fun g e => e)) (fun g e => .inl e)
  have b1 := keeps_out k1 h.blk (OwnO.off h.pk h.blk (by decide))
  have r1 : PS w' B vr R := OwnO.keeps h.rk k1 (fun g hg => OwnO.ne h.rk h.pk (by decide) hg)
  refine ⟨(k1.wide (fun g e _ => .inr (.inl e))).set _ _ (.inl (.inl rfl)), cell_of_block b1, cell_of_block b1, cell_of_block b1, frozen_of_block b1, ?_⟩
  refine ⟨by rw [heap_set_same b1]; rfl, h.lo, ?_, ?_⟩
  · exact OwnO.keeps (F := fun g => g = aj) hv ((Keeps.refl _ w').set _ _ (.inl rfl)) (fun g hg e => OwnO.off hv b1 (by decide) (by rw [← e]; exact hg))
  · exact OwnO.keeps (F := fun g => g = aj) r1 ((Keeps.refl _ w').set _ _ (.inl rfl)) (fun g hg e => OwnO.off r1 b1 (by decide) (by rw [← e]; exact hg))
theorem JrG.grownR (h : JrG w B ad aj many vp vr P R) {w0 : World} {v' : Value} {R' : List Rc} (hb : Below w.heap.size w w0) (hg : w0.grownBy w' vr.ownBlock) (hv : PS w' B v' R') :
    Keeps (jfoot aj vp vr) w (w'.setCell ⟨aj, 3, none⟩ v') ∧ w'.cell? ⟨aj, 3, none⟩ = some vr ∧ w'.cell? ⟨aj, 0, none⟩ = some (.pointer (some ⟨ad, 0, none⟩)) ∧ w'.frozen? ⟨aj, 3, none⟩ = false ∧ JrG (w'.setCell ⟨aj, 3, none⟩ v') B ad aj many vp v' P R' := by
  have k1 : Keeps (fun g => vr.ownBlock = some g) w w' := (Keeps.of_below hb (Nat.le_refl _) _).trans (Keeps.of_grown (F := fun g => vr.ownBlock = some g) hg (fun g e => e)) (fun g e => .inl e)
  have b1 := keeps_out k1 h.blk (OwnO.off h.rk h.blk (by decide))
  have r1 : PI w' B vp P := OwnO.keeps h.pk k1 (fun g hg => OwnO.ne h.pk h.rk (by decide) hg)
  refine ⟨(k1.wide (fun g e _ => .inr (.inr e))).set _ _ (.inl (.inl rfl)), cell_of_block b1, cell_of_block b1, frozen_of_block b1, ?_⟩
  refine ⟨by rw [heap_set_same b1]; rfl, h.lo, ?_, ?_⟩
  · exact OwnO.keeps (F := fun g => g = aj) r1 ((Keeps.refl _ w').set _ _ (.inl rfl)) (fun g hg e => OwnO.off r1 b1 (by decide) (by rw [← e]; exact hg))
  · exact OwnO.keeps (F := fun g => g = aj) hv ((Keeps.refl _ w').set _ _ (.inl rfl)) (fun g hg e => OwnO.off hv b1 (by decide) (by rw [← e]; exact hg))
end
/-! ### the journal over its disk, and all else as it was -/
/-- Since when: a world, and the blocks that may be turned. -/
structure Fr where
  w : World
  Z : Nat → Prop
/-- A disk, and blocks G beside it: nothing else was turned. -/
def OwnZ (W : Fr) (w : World) (G : Nat → Prop) (ad rm : Nat) (dn : Bool) (L : List Pt) : Prop := ∃ F, Dsk w F ad rm dn L ∧ Mv8 W.w W.Z w (fun g => F g ∨ G g)
section
variable {W : Fr} {w w' : World} {G G' : Nat → Prop} {ad rm : Nat} {dn : Bool} {L : List Pt}
theorem OwnZ.still (h : OwnZ W w G ad rm dn L) (hb : Below w.heap.size w w') : OwnZ W w' G ad rm dn L := by
  obtain ⟨F, h1, h2⟩ := h
  exact ⟨F, h1.below hb, h2.trans (Mv8.still hb)⟩
theorem OwnZ.more (h : OwnZ W w G ad rm dn L) (hb : Below w.heap.size w w') (hG : ∀ g, G' g → G g ∨ w.heap.size ≤ g) : OwnZ W w' G' ad rm dn L := by
  obtain ⟨F, h1, h2⟩ := h
  refine ⟨F, h1.below hb, h2.trans ⟨Keeps.of_below hb (Nat.le_refl _) _, fun g hg => ?_⟩⟩
  rcases hg with e | e
  · exact .inl (.inl e)
  · rcases hG g e with e | e
    · exact .inl (.inr e)
    · exact .inr e
theorem OwnZ.dsk (h : OwnZ W w G ad rm dn L) {f : FuncId} {args : Array Value} {E : Ending → Prop} {dn' : Bool} {L' : List Pt}
    (hc : ∀ F, Dsk w F ad rm dn L → Calls Tryz.prog f args w fun e w' => E e ∧ ∃ F', Dsk w' F' ad rm dn' L' ∧ Mv8 w F w' F') :
    Calls Tryz.prog f args w fun e w' => E e ∧ OwnZ W w' G ad rm dn' L' := by
  obtain ⟨F, h1, h2⟩ := h
  refine (hc F h1).mono ?_
  rintro e w' ⟨he, F', d, m⟩
  refine ⟨he, F', d, h2.trans ⟨m.keeps.wide (fun g hg _ => .inl hg), fun g hg => ?_⟩⟩
  rcases hg with e | e
  · rcases m.own g e with e | e
    · exact .inl (.inl e)
    · exact .inr e
  · exact .inl (.inr e)
end
/-- A journal over its own disk; nothing else was turned. -/
def Jn (W : Fr) (w : World) (ad aj rm : Nat) (dn : Bool) (L : List Pt) (many : Int) (P : List Int) (R : List Rc) : Prop :=
  ∃ vp vr, OwnZ W w (jfoot aj vp vr) ad rm dn L ∧ JrG w 0 ad aj many vp vr P R
/-- .. its blocks said. -/
def Jx (w : World) (FF : Nat → Prop) (ad aj rm : Nat) (dn : Bool) (L : List Pt) (many : Int) (P : List Int) (R : List Rc) : Prop :=
  ∃ F vp vr, Dsk w F ad rm dn L ∧ JrG w 0 ad aj many vp vr P R ∧ ∀ g, FF g ↔ F g ∨ jfoot aj vp vr g
section
variable {W : Fr} {w w' : World} {ad aj rm : Nat} {dn : Bool} {L : List Pt} {many : Int} {P : List Int} {R : List Rc} {vp vr vp' vr' : Value} {FF : Nat → Prop}
theorem Jx.jn (h : Jx w FF ad aj rm dn L many P R) : Jn ⟨w, FF⟩ w ad aj rm dn L many P R := by
  obtain ⟨F, vp, vr, h1, h2, h3⟩ := h
  exact ⟨vp, vr, ⟨F, h1, Keeps.refl _ _, fun g hg => .inl ((h3 g).2 hg)⟩, h2⟩
theorem Jn.jx (h : Jn W w ad aj rm dn L many P R) : ∃ FF', Jx w FF' ad aj rm dn L many P R ∧ Mv8 W.w W.Z w FF' := by
  obtain ⟨vp, vr, ⟨F, h1, h2⟩, h3⟩ := h
  exact ⟨fun g => F g ∨ jfoot aj vp vr g, ⟨F, vp, vr, h1, h3, fun g => Iff.rfl⟩, h2⟩
theorem Jx.below (h : Jx w FF ad aj rm dn L many P R) (hb : Below w.heap.size w w') : Jx w' FF ad aj rm dn L many P R := by
  obtain ⟨F, vp, vr, h1, h2, h3⟩ := h
  exact ⟨F, vp, vr, h1.below hb, h2.still hb, h3⟩
theorem Jx.lt (h : Jx w FF ad aj rm dn L many P R) {g : Nat} (hg : FF g) : g < w.heap.size := by
  obtain ⟨F, vp, vr, h1, h2, h3⟩ := h
  rcases (h3 g).1 hg with e | e
  · exact h1.lt e
  · exact h2.footlt e
theorem Jx.keeps {K : Nat → Prop} (h : Jx w FF ad aj rm dn L many P R) (k : Keeps K w w') (hK : ∀ g, FF g → ¬ K g) : Jx w' FF ad aj rm dn L many P R := by
  obtain ⟨F, vp, vr, h1, h2, h3⟩ := h
  exact ⟨F, vp, vr, h1.keeps k (fun g hg => hK g ((h3 g).2 (.inl hg))), h2.keeps k (fun g hg => hK g ((h3 g).2 (.inr hg))), h3⟩
theorem Jx.jrg (h : Jx w FF ad aj rm dn L many P R) : ∃ vp vr, JrG w 0 ad aj many vp vr P R := by
  obtain ⟨F, vp, vr, _, h2, _⟩ := h
  exact ⟨vp, vr, h2⟩
theorem Jx.dsk0 (h : Jx w FF ad aj rm dn L many P R) : ∃ F, Dsk w F ad rm dn L := by
  obtain ⟨F, vp, vr, h1, _, _⟩ := h
  exact ⟨F, h1⟩
theorem Jn.still (h : Jn W w ad aj rm dn L many P R) (hb : Below w.heap.size w w') : Jn W w' ad aj rm dn L many P R := by
  obtain ⟨vp, vr, o, g⟩ := h
  exact ⟨vp, vr, o.still hb, g.still hb⟩
theorem OwnZ.far (o : OwnZ W w (jfoot aj vp vr) ad rm dn L) (g : JrG w 0 ad aj many vp vr P R) (k : Keeps (jfoot aj vp vr) w w') (hJ : ∀ x, jfoot aj vp' vr' x → jfoot aj vp vr x ∨ w.heap.size ≤ x) : OwnZ W w' (jfoot aj vp' vr') ad rm dn L := by
  obtain ⟨F, h1, h2⟩ := o
  refine ⟨F, h1.keeps k (fun x hx hj => g.apart h1 hx hj), h2.trans ⟨k.wide (fun x hx _ => .inr hx), fun x hx => ?_⟩⟩
  rcases hx with e | e
  · exact .inl (.inl e)
  · rcases hJ x e with e | e
    · exact .inl (.inr e)
    · exact .inr e
/-- What a call on the disk makes of it, with the journal beside it. -/
theorem Jn.dsk (h : Jn W w ad aj rm dn L many P R) {f : FuncId} {args : Array Value} {E : Ending → Prop} {dn' : Bool} {L' : List Pt}
    (hc : ∀ F, Dsk w F ad rm dn L → Calls Tryz.prog f args w fun e w' => E e ∧ ∃ F', Dsk w' F' ad rm dn' L' ∧ Mv8 w F w' F') :
    Calls Tryz.prog f args w fun e w' => E e ∧ Jn W w' ad aj rm dn' L' many P R := by
  obtain ⟨vp, vr, ⟨F, h1, h2⟩, g⟩ := h
  refine (hc F h1).mono ?_
  rintro e w' ⟨he, F', d, m⟩
  refine ⟨he, vp, vr, ⟨F', d, h2.trans ⟨m.keeps.wide (fun x hx _ => .inl hx), fun x hx => ?_⟩⟩, g.keeps m.keeps (fun x hx hF => g.apart h1 hF hx)⟩
  rcases hx with e | e
  · rcases m.own x e with e | e
    · exact .inl (.inl e)
    · exact .inr e
  · exact .inl (.inr e)
theorem addP (o : OwnZ W w (jfoot aj vp vr) ad rm dn L) (g : JrG w 0 ad aj many vp vr P R) (x : Int) (hl : P.length ≤ 100000) :
    ∃ A cap w', (Builtin.append_ #[109, 109] 109 #[vp, .slice (some ⟨w.heap.size, 0, none⟩) 1 1]).run Tryz.prog (w.alloc (.cells #[.int .i64 x] 3)) = .ok (.slice A (P.length + 1) cap) w' ∧
      w'.cell? ⟨aj, 2, none⟩ = some vp ∧ w'.cell? ⟨aj, 0, none⟩ = some (.pointer (some ⟨ad, 0, none⟩)) ∧ w'.cell? ⟨aj, 3, none⟩ = some vr ∧ w'.frozen? ⟨aj, 2, none⟩ = false ∧
      OwnZ W (w'.setCell ⟨aj, 2, none⟩ (.slice A (P.length + 1) cap)) (jfoot aj (.slice A (P.length + 1) cap) vr) ad rm dn L ∧ JrG (w'.setCell ⟨aj, 2, none⟩ (.slice A (P.length + 1) cap)) 0 ad aj many (.slice A (P.length + 1) cap) vr (P ++ [x]) R ∧
      Keeps (jfoot aj vp vr) w (w'.setCell ⟨aj, 2, none⟩ (.slice A (P.length + 1) cap)) ∧ (∀ g, (Value.slice A (P.length + 1) cap).ownBlock = some g → vp.ownBlock = some g ∨ w.heap.size ≤ g) := by
  obtain ⟨v', w', hrun, hown, hgr, hat⟩ := addO_int g.pk x hl (Nat.zero_le _)
  obtain ⟨A, cap, e, _, _, _⟩ := OwnO.view hown
  rw [List.length_append, List.length_singleton] at e
  subst e
  obtain ⟨k, q1, q2, q3, q4, q5⟩ := g.grownP ((Below.refl w.heap.size w).alloc (Nat.le_refl _) _) hgr hown
  have hat2 : ∀ g, (Value.slice A (P.length + 1) cap).ownBlock = some g → vp.ownBlock = some g ∨ w.heap.size ≤ g := fun x hx => by
    rcases hat with e | e
    · exact .inl (by rw [← e]; exact hx)
    · rw [e] at hx; cases hx; exact .inr (by omega)
  refine ⟨A, cap, w', hrun, q1, q2, q3, q4, o.far g k (fun x hx => ?_), q5, k, hat2⟩
  rcases hx with e | e | e
  · exact .inl (.inl e)
  · rcases hat2 x e with e | e
    · exact .inl (.inr (.inl e))
    · exact .inr e
  · exact .inl (.inr (.inr e))
theorem addR (o : OwnZ W w (jfoot aj vp vr) ad rm dn L) (g : JrG w 0 ad aj many vp vr P R) (x : Rc) (hl : R.length ≤ 100000) :
    ∃ A cap w', (Builtin.append_ #[107, 107] 107 #[vr, .slice (some ⟨w.heap.size, 0, none⟩) 1 1]).run Tryz.prog (w.alloc (.cells #[.string ⟨x.toArray⟩] 9)) = .ok (.slice A (R.length + 1) cap) w' ∧
      w'.cell? ⟨aj, 3, none⟩ = some vr ∧ w'.cell? ⟨aj, 0, none⟩ = some (.pointer (some ⟨ad, 0, none⟩)) ∧ w'.frozen? ⟨aj, 3, none⟩ = false ∧
      OwnZ W (w'.setCell ⟨aj, 3, none⟩ (.slice A (R.length + 1) cap)) (jfoot aj vp (.slice A (R.length + 1) cap)) ad rm dn L ∧ JrG (w'.setCell ⟨aj, 3, none⟩ (.slice A (R.length + 1) cap)) 0 ad aj many vp (.slice A (R.length + 1) cap) P (R ++ [x]) := by
  obtain ⟨v', w', hrun, hown, hgr, hat⟩ := addO_str g.rk x hl (Nat.zero_le _)
  obtain ⟨A, cap, e, _, _, _⟩ := OwnO.view hown
  rw [List.length_append, List.length_singleton] at e
  subst e
  obtain ⟨k, q1, q2, q4, q5⟩ := g.grownR ((Below.refl w.heap.size w).alloc (Nat.le_refl _) _) hgr hown
  refine ⟨A, cap, w', hrun, q1, q2, q4, o.far g k (fun x hx => ?_), q5⟩
  rcases hx with e | e | e
  · exact .inl (.inl e)
  · exact .inl (.inr (.inl e))
  · rcases hat with e2 | e2
    · exact .inl (.inr (.inr (by rw [← e2]; exact e)))
    · rw [e2] at e; cases e; exact .inr (by omega)
theorem addRs (o : OwnZ W w (jfoot aj vp vr) ad rm dn L) (g : JrG w 0 ad aj many vp vr P R) {y : Value} {B' : Nat} {x : List Rc} (hy : OS w B' y x) (hl : R.length + x.length ≤ 1000000) :
    ∃ A cap w', (Builtin.append_ #[107, 107] 107 #[vr, y]).run Tryz.prog w = .ok (.slice A (R.length + x.length) cap) w' ∧
      w'.cell? ⟨aj, 3, none⟩ = some vr ∧ w'.cell? ⟨aj, 0, none⟩ = some (.pointer (some ⟨ad, 0, none⟩)) ∧ w'.frozen? ⟨aj, 3, none⟩ = false ∧
      OwnZ W (w'.setCell ⟨aj, 3, none⟩ (.slice A (R.length + x.length) cap)) (jfoot aj vp (.slice A (R.length + x.length) cap)) ad rm dn L ∧ JrG (w'.setCell ⟨aj, 3, none⟩ (.slice A (R.length + x.length) cap)) 0 ad aj many vp (.slice A (R.length + x.length) cap) P (R ++ x) ∧
      Keeps (jfoot aj vp vr) w (w'.setCell ⟨aj, 3, none⟩ (.slice A (R.length + x.length) cap)) := by
  obtain ⟨v', w', hrun, hown, hgr, hat⟩ := addO_strs g.rk hy hl (Nat.zero_le _)
  obtain ⟨A, cap, e, _, _, _⟩ := OwnO.view hown
  rw [List.length_append] at e
  subst e
  obtain ⟨k, q1, q2, q4, q5⟩ := g.grownR (Below.refl w.heap.size w) hgr hown
  refine ⟨A, cap, w', hrun, q1, q2, q4, o.far g k (fun x hx => ?_), q5, k⟩
  rcases hx with e | e | e
  · exact .inl (.inl e)
  · exact .inl (.inr (.inl e))
  · rcases hat with e2 | e2
    · exact .inl (.inr (.inr (by rw [← e2]; exact e)))
    · rw [e2] at e; cases e; exact .inr (Nat.le_refl _)
/-- .. and a row of whole numbers beside it, that stays. -/
def Jy (W : Fr) (w : World) (ad aj rm : Nat) (dn : Bool) (L : List Pt) (many : Int) (P : List Int) (R : List Rc) (y : Value) (ps : List Int) : Prop :=
  ∃ vp vr, OwnZ W w (jfoot aj vp vr) ad rm dn L ∧ JrG w 0 ad aj many vp vr P R ∧ OI w 0 y ps ∧ ∀ g, y.ownBlock = some g → vp.ownBlock ≠ some g
variable {y : Value} {ps : List Int}
theorem Jy.jn (h : Jy W w ad aj rm dn L many P R y ps) : Jn W w ad aj rm dn L many P R := by
  obtain ⟨vp, vr, o, g, _⟩ := h
  exact ⟨vp, vr, o, g⟩
theorem oi_keeps {B : Nat} (hy : OI w 0 y ps) (g : JrG w B ad aj many vp vr P R) (hd : ∀ x, y.ownBlock = some x → vp.ownBlock ≠ some x) (k : Keeps (jfoot aj vp vr) w w') : OI w' 0 y ps :=
  owns_keeps hy k (fun x hx hf => by
    rcases hf with rfl | e | e
    · exact owns_off hy g.blk (by decide) hx
    · exact hd x hx e
    · exact OwnO.ne (.of hy) g.rk (by decide) hx e)
theorem oi_apart {F : Nat → Prop} (hy : OI w 0 y ps) (d : Dsk w F ad rm dn L) {x : Nat} (hx : y.ownBlock = some x) : ¬ F x := by
  intro hF
  obtain ⟨b, xs, hd, _, hf⟩ := d
  obtain ⟨_, _, c, hc⟩ := owns_block hy hx
  rcases (hf x).1 hF with rfl | rfl | ⟨z, hz, e⟩
  · have := hd.blk; rw [hc] at this; cases this
  · obtain ⟨es, cl, hb, _⟩ := hd.map; rw [hc] at hb; cases hb
  · obtain ⟨c', fz, hc'⟩ := (hd.own z hz).kind x e; rw [hc] at hc'; cases hc'
theorem Jy.still (h : Jy W w ad aj rm dn L many P R y ps) (hb : Below w.heap.size w w') : Jy W w' ad aj rm dn L many P R y ps := by
  obtain ⟨vp, vr, o, g, hy, hd⟩ := h
  exact ⟨vp, vr, o.still hb, g.still hb, owns_keeps hy (Keeps.of_below hb (Nat.le_refl _) (fun _ => False)) (fun _ _ e => e), hd⟩
theorem Jy.dsk (h : Jy W w ad aj rm dn L many P R y ps) {f : FuncId} {args : Array Value} {E : Ending → Prop} {dn' : Bool} {L' : List Pt}
    (hc : ∀ F, Dsk w F ad rm dn L → Calls Tryz.prog f args w fun e w' => E e ∧ ∃ F', Dsk w' F' ad rm dn' L' ∧ Mv8 w F w' F') :
    Calls Tryz.prog f args w fun e w' => E e ∧ Jy W w' ad aj rm dn' L' many P R y ps := by
  obtain ⟨vp, vr, ⟨F, h1, h2⟩, g, hy, hd⟩ := h
  refine (hc F h1).mono ?_
  rintro e w' ⟨he, F', d, m⟩
  refine ⟨he, vp, vr, ⟨F', d, h2.trans ⟨m.keeps.wide (fun x hx _ => .inl hx), fun x hx => ?_⟩⟩, g.keeps m.keeps (fun x hx hF => g.apart h1 hF hx), owns_keeps hy m.keeps (fun x hx => oi_apart hy h1 hx), hd⟩
  rcases hx with e | e
  · rcases m.own x e with e | e
    · exact .inl (.inl e)
    · exact .inr e
  · exact .inl (.inr e)
end
end Go.Proofs.YtgeahpfdaehjaaaGreatDoor
namespace Go.Proofs.YtgeahpfdaehjaaaGreatDoor
open Go.ChangeShapes Go.WideShapes Go.ChangeAt Go.RowKit
set_option linter.unusedVariables false

section
variable {w : World} {B ad aj : Nat} {many : Int} {vp vr : Value} {P : List Int} {R : List Rc}
theorem JrG.drewN (h : JrG w B ad aj many vp vr P R) (n : Nat) : JrG (w.drewN n) B ad aj many vp vr P R := h.still (below_drewN w n)
theorem j_ints (h : JrG w B ad aj many vp vr P R) : ∃ A cap, vp = .slice A P.length cap ∧ ∀ (i : Nat) (n : Int), P[i]? = some n → ∃ g o, A = some ⟨g, o, none⟩ ∧ w.cell? ⟨g, o + i, none⟩ = some (.int .i64 n) := pi_shape h.pk
theorem firstJ (h : JrG w B ad aj many vp vr P R) :
    Calls Tryz.prog 22 #[.pointer (some ⟨aj, 0, none⟩)] w fun e w' => e = .returned (.int .i64 (jFirst P)) ∧ w' = w := by
  have c2 := h.c2
  obtain ⟨A, cap, rfl, hA⟩ := j_ints h
  cases P with
  | nil =>
    clear h hA
    go_enter Tryz.func22, Tryz.ntmps22
    go_wp2
    go_ret
    exact ⟨rfl, rfl⟩
  | cons n P =>
    obtain ⟨g, o, rfl, hc⟩ := hA 0 n rfl
    rw [Nat.add_zero] at hc
    clear h hA
    have h0 : 0 < (n :: P).length := by simp
    generalize (n :: P).length = N at c2 h0
    have hb : ((N : Int) == 0) = false := beq_eq_false_iff_ne.2 (by omega)
    have hb' : ¬ N = 0 := by omega
    go_enter Tryz.func22, Tryz.ntmps22
    go_wp2
    go_ret
    exact ⟨rfl, rfl⟩
theorem last_some {P : List Int} {M : Nat} (h : P.length = M + 1) : P[M]? = some (jLast P) := by
  unfold jLast
  have : P ≠ [] := fun e => by rw [e] at h; cases h
  rw [List.getLastD_eq_getLast?, List.getLast?_eq_getElem?, h]
  simp only [Nat.add_sub_cancel]
  rw [List.getElem?_eq_getElem (by omega)]
  rfl
theorem lastJ (h : JrG w B ad aj many vp vr P R) (hP : P ≠ []) (hl : P.length ≤ 1000) :
    Calls Tryz.prog 56 #[.pointer (some ⟨aj, 0, none⟩)] w fun e w' => e = .returned (.int .i64 (jLast P)) ∧ ∃ m, w' = w.drewN m := by
  have c2 := h.c2
  obtain ⟨A, cap, rfl, hA⟩ := j_ints h
  obtain ⟨M, hM⟩ : ∃ M, P.length = M + 1 := ⟨P.length - 1, by have := List.length_pos_iff.2 hP; omega⟩
  obtain ⟨g, o, rfl, hc⟩ := hA M _ (last_some hM)
  rw [hM] at c2 hl
  clear h hA hM hP
  generalize jLast P = n at *
  have hw : ((M + 1 : Nat) : Int) - 1 = (M : Int) := by omega
  have h1 : (M : Int) < ((M + 1 : Nat) : Int) := by omega
  generalize hN : M + 1 = N at *
  have hw' : IntKind.i64.wrap ((N : Int) - 1) = (M : Int) := by rw [hw]; exact IntWalk.i64_in _ (by omega)
  have h0 : (0 : Int) ≤ (M : Int) := by omega
  clear hN hw
  go_enter Tryz.func56, Tryz.ntmps56
  go_wp2_with fail
  go_quiet (fail)
  go_wp2
  go_ret
  exact ⟨rfl, _, rfl⟩
/-- Its numbers are not too great, nor are there too many. -/
structure Fits (P : List Int) (R : List Rc) : Prop where
  lo : ∀ n ∈ P, 0 ≤ n ∧ n ≤ 4611686018427387904
  pl : P.length ≤ 1000
  rl : R.length ≤ 100000
theorem Fits.first {P : List Int} {R : List Rc} (h : Fits P R) : 0 ≤ jFirst P ∧ jFirst P ≤ 4611686018427387904 := by
  cases P with
  | nil => exact ⟨Int.le_refl _, by show (0 : Int) ≤ _; omega⟩
  | cons n P => exact h.lo n (by simp)
theorem Fits.last {P : List Int} {R : List Rc} (h : Fits P R) : 0 ≤ jLast P ∧ jLast P ≤ 4611686018427387904 := by
  by_cases hP : P = []
  · subst hP; exact ⟨Int.le_refl _, by show (0 : Int) ≤ _; omega⟩
  · obtain ⟨M, hM⟩ : ∃ M, P.length = M + 1 := ⟨P.length - 1, by have := List.length_pos_iff.2 hP; omega⟩
    exact h.lo _ (List.mem_of_getElem? (last_some hM))
theorem Fits.next {P : List Int} {R : List Rc} (h : Fits P R) : 0 ≤ jNext P R ∧ jNext P R ≤ 4611686018427487904 := by
  have := h.first
  have := h.rl
  unfold jNext
  omega
theorem nextJ (h : JrG w B ad aj many vp vr P R) (hf : Fits P R) :
    Calls Tryz.prog 25 #[.pointer (some ⟨aj, 0, none⟩)] w fun e w' => e = .returned (.int .i64 (jNext P R)) ∧ ∃ m, w' = w.drewN m := by
  have c3 := h.c3
  obtain ⟨A, cap, rfl, _⟩ := ps_shape h.rk
  have C := Lib.hid (fun n : Nat => firstJ (h.drewN n))
  have hn := hf.next
  have hs : IntKind.i64.wrap (jFirst P + (R.length : Int)) = jNext P R := by
    rw [show jFirst P + (R.length : Int) = jNext P R from rfl]; exact IntWalk.i64_in _ (by omega)
  generalize R.length = N at *
  clear h hf hn
  go_enter Tryz.func25, Tryz.ntmps25
  go_wp2_with fail
  go_quiet ((go_at_call 22; exact Calls.quiet_of_same (C.out _)))
  go_wp2
  go_ret
  exact ⟨rfl, _, rfl⟩
theorem jFull_nil (many : Int) (R : List Rc) : jFull many [] R = true := rfl
theorem jFull_some {many : Int} {P : List Int} {R : List Rc} (hP : P ≠ []) : jFull many P R = decide (many ≤ jNext P R - jLast P) := by unfold jFull; rw [decide_eq_false hP]; rfl
theorem enoughJ (h : JrG w B ad aj many vp vr P R) (hf : Fits P R) (hm : 0 ≤ many ∧ many ≤ 1000) :
    Calls Tryz.prog 53 #[.pointer (some ⟨aj, 0, none⟩)] w fun e w' => e = .returned (.bool (jFull many P R)) ∧ ∃ m, w' = w.drewN m := by
  have c1 := h.c1
  have c2 := h.c2
  obtain ⟨A, cap, rfl, hA⟩ := j_ints h
  by_cases hP : P = []
  · subst hP
    rw [jFull_nil]
    clear h hA hf
    go_enter Tryz.func53, Tryz.ntmps53
    go_wp2_with fail
    go_quiet (fail)
    go_wp2
    go_ret
    exact ⟨rfl, _, rfl⟩
  · rw [jFull_some hP]
    have C := Lib.hid (fun n : Nat => nextJ (h.drewN n) hf)
    have D := Lib.hid (fun n : Nat => lastJ (h.drewN n) hP hf.pl)
    have h0 : 0 < P.length := List.length_pos_iff.2 hP
    have hn := hf.next
    have hl := hf.last
    have hw : IntKind.i64.wrap (jNext P R - jLast P) = jNext P R - jLast P := IntWalk.i64_in _ (by omega)
    generalize P.length = N at c2 h0
    have hb : ((N : Int) == 0) = false := beq_eq_false_iff_ne.2 (by omega)
    have hb' : ¬ N = 0 := by omega
    clear h hA hf hn hl h0
    generalize jNext P R = x at *
    generalize jLast P = y at *
    go_enter Tryz.func53, Tryz.ntmps53
    go_wp2_with fail
    go_quiet (first | (go_at_call 25; exact Calls.quiet_of (C.out _)) | (go_at_call 56; exact Calls.quiet_of (D.out _)))
    go_wp2
    go_ret
    exact ⟨rfl, _, rfl⟩
theorem str_row' (w : World) (r : Rc) (hr : r.length ≤ 1000000) :
    ∃ cap w', (convert 9 64 (.string ⟨r.toArray⟩)).run Tryz.prog w = .ok (.slice (some ⟨w.heap.size, 0, none⟩) r.length cap) w' ∧ RdS w' (some ⟨w.heap.size, 0, none⟩) cap r ∧ Below w.heap.size w w' := by
  have hz : ByteArray.size ⟨r.toArray⟩ = r.length := by simp [ByteArray.size]
  obtain ⟨cap, w', h1, h2, h3⟩ := str_row w ⟨r.toArray⟩ (by rw [hz]; exact hr)
  rw [hz] at h1
  exact ⟨cap, w', h1, h2, h3⟩
set_option maxRecDepth 100000 in
theorem recordJ (h : JrG w B ad aj many vp vr P R) (hf : Fits P R) {k : Nat} {r : Rc} (hk : R[k]? = some r) (hr : r.length ≤ 1000000) {n : Int} (hn : n = jFirst P + (k : Nat)) :
    Calls Tryz.prog 77 #[.pointer (some ⟨aj, 0, none⟩), .int .i64 n] w fun e w' => ∃ A cap, e = .returned (.tuple #[.slice A r.length cap, .nilIface]) ∧ RdS w' A cap r ∧ Below w.heap.size w w' ∧ ∀ a, A = some a → w.heap.size ≤ a.block := by
  have c3 := h.c3
  obtain ⟨A, cap, rfl, _, hA⟩ := ps_shape h.rk
  have hlt := (List.getElem?_eq_some_iff.1 hk).1
  have C := Lib.hid (firstJ h)
  obtain ⟨ad', rfl⟩ : ∃ ad', A = some ad' := by
    cases A with
    | none =>
      have h1 := h.rk
      rcases h1.2 with ⟨_, e⟩ | ⟨g, o, cap', cur, e, _⟩
      · omega
      · cases e
    | some a => exact ⟨a, rfl⟩
  have hc := (hA ad' rfl).2 k r hk
  unfold encS at hc
  have ht := (hA ad' rfl).1
  generalize ad'.block = g at ht
  generalize ad'.off = o at ht
  subst ht
  rw [Addr.add_lit] at hc
  obtain ⟨cap2, w2, r2, R2, B2⟩ := str_row' w r hr
  have hff := hf.first
  have hrl := hf.rl
  have hs : n - jFirst P = (k : Int) := by omega
  have hge : ¬ n < jFirst P := by omega
  have hle : n ≤ 4611686018427487904 := by omega
  have h0 : 0 ≤ n := by omega
  have R2 := Lib.hid R2
  have B2 := Lib.hid B2
  generalize R.length = N at *
  generalize jFirst P = f at *
  have hkN : (k : Int) < (N : Int) := by omega
  have hb : decide ((N : Int) ≤ (k : Int)) = false := decide_eq_false (by omega)
  clear h hA hf hk hn hlt
  go_enter Tryz.func77, Tryz.ntmps77
  go_wp2_with fail
  refine C.out.mono ?_
  rintro e w1 ⟨rfl, rfl⟩
  clear C
  go_wp2
  go_ret2
  exact ⟨_, _, rfl, R2.out, B2.out, fun a e => by cases e; exact Nat.le_refl _⟩
theorem bytesJ (w : World) (r : Rc) (hr : r.length ≤ 4096) :
    Calls Tryz.prog 57 #[.string ⟨r.toArray⟩] w fun e w' => ∃ A cap, e = .returned (.slice A (encR r).length cap) ∧ RdS w' A cap (encR r) ∧ Below w.heap.size w w' := by
  have hz : ByteArray.size ⟨r.toArray⟩ = r.length := by simp [ByteArray.size]
  have C := Lib.hid (wireTextL none 0 [] ⟨r.toArray⟩ w (RdS.nil w) (by simp) (by rw [hz]; omega))
  rw [List.nil_append, encT_arr] at C
  go_enter Tryz.func57, Tryz.ntmps57
  go_wp2_with fail
  refine C.out.mono ?_
  rintro e w1 ⟨v, rfl, o, b⟩
  obtain ⟨A, cap, rfl, hr⟩ := o.rd
  have HR := Lib.hid hr
  have HB := Lib.hid b
  clear o hr b C
  generalize hL : (encR r).length = N
  go_wp2
  go_ret
  exact ⟨A, cap, by rw [hL]; rfl, HR.out, HB.out⟩
end
section
variable {W : Fr} {w : World} {ad aj rm : Nat} {dn : Bool} {L : List Pt} {many : Int} {P : List Int} {R : List Rc}
theorem Jn.sync (h : Jn W w ad aj rm dn L many P R) (n : Int) (hi : Inv rm L) (hl : L.length ≤ 1000) (h0 : -9223372036854775808 ≤ n) (h1 : n ≤ 9223372036854775807) :
    Calls Tryz.prog 58 #[.pointer (some ⟨ad, 0, none⟩), .int .i64 n] w fun e w' => e = .returned (ErrV (opSync dn L n).1) ∧ Jn W w' ad aj rm dn (opSync dn L n).2 many P R :=
  h.dsk fun F hF => syncD w F ad rm dn L n hF hi hl h0 h1
theorem Jn.append (h : Jn W w ad aj rm dn L many P R) (n : Int) {B : Option Addr} {cb : Nat} {bs : List UInt8} (hr : RdS w B cb bs) (hi : Inv rm L) (hl : L.length ≤ 1000) (hn : n ≤ 9223372036854775807) (hb : bs.length ≤ 1000000) :
    Calls Tryz.prog 55 #[.pointer (some ⟨ad, 0, none⟩), .int .i64 n, .slice B bs.length cb] w fun e w' => e = .returned (ErrV (opAppend rm dn L n bs).1) ∧ Jn W w' ad aj rm dn (opAppend rm dn L n bs).2 many P R :=
  h.dsk fun F hF => appendD w F ad rm dn L n B cb bs hF hr hi hl hn hb
theorem Jn.cut (h : Jn W w ad aj rm dn L many P R) (n m : Int) (hi : Inv rm L) (hl : L.length ≤ 1000) (h0 : -9223372036854775808 ≤ n) (h1 : n ≤ 9223372036854775807) (m0 : -9223372036854775808 ≤ m) (m1 : m ≤ 9223372036854775807) :
    Calls Tryz.prog 97 #[.pointer (some ⟨ad, 0, none⟩), .int .i64 n, .int .i64 m] w fun e w' => e = .returned (ErrV (opCut dn L n m).1) ∧ Jn W w' ad aj rm dn (opCut dn L n m).2 many P R :=
  h.dsk fun F hF => cutD w F ad rm dn L n m hF hi hl h0 h1
theorem Jn.jrg (h : Jn W w ad aj rm dn L many P R) : ∃ vp vr, JrG w 0 ad aj many vp vr P R := by
  obtain ⟨vp, vr, _, g⟩ := h
  exact ⟨vp, vr, g⟩
end
end Go.Proofs.YtgeahpfdaehjaaaGreatDoor
