/-
  A disk's parts, as a list by rising numbers: one that is laid, changed, taken away; what stays when it goes down; and the same list as a map's reading.
-/
import Derived.Maps.Ext
import Derived.Maps.OwnSet
import Derived.Lib.Hide
namespace Go.Proofs.Ytgohgmihoggcpaa
open Go.WideShapes
set_option linter.unusedVariables false

/-- A part: its number, its bytes, how many of them are synced. -/
structure Pt where
  n : Int
  b : List UInt8
  s : Nat

def used : List Pt → Nat
  | [] => 0
  | p :: r => p.b.length + used r
theorem used_cons (p : Pt) (r : List Pt) : used (p :: r) = p.b.length + used r := rfl
theorem used_app : ∀ (x y : List Pt), used (x ++ y) = used x + used y
  | [], y => by simp [used]
  | p :: r, y => by rw [List.cons_append, used_cons, used_cons, used_app r y]; omega
theorem used_mem {p : Pt} : ∀ {l : List Pt}, p ∈ l → p.b.length ≤ used l
  | q :: r, h => by
    rcases List.mem_cons.1 h with rfl | h
    · rw [used_cons]; omega
    · have := used_mem h; rw [used_cons]; omega

def Rises (l : List Pt) : Prop := l.Pairwise (fun p q => p.n < q.n)
structure Inv (rm : Nat) (l : List Pt) : Prop where
  rise : Rises l
  lo : ∀ p ∈ l, 0 ≤ p.n
  hi : ∀ p ∈ l, p.n ≤ 9223372036854775807
  syn : ∀ p ∈ l, p.s ≤ p.b.length
  fits : used l ≤ rm
  room : rm ≤ 65536

/-- The list is x, the part of this number, y; or x, y, and there is none such. -/
inductive Split (n : Int) : List Pt → Prop
  | has (x : List Pt) (q : Pt) (y : List Pt) (hn : q.n = n) (hx : ∀ p ∈ x, p.n < n) (hy : ∀ p ∈ y, n < p.n) : Split n (x ++ q :: y)
  | no (x y : List Pt) (hx : ∀ p ∈ x, p.n < n) (hy : ∀ p ∈ y, n < p.n) : Split n (x ++ y)
theorem all_cons {T : Pt → Prop} {q : Pt} {x : List Pt} (hq : T q) (h : ∀ p ∈ x, T p) : ∀ p ∈ q :: x, T p := fun p hp => by
  rcases List.mem_cons.1 hp with rfl | hp
  · exact hq
  · exact h p hp
theorem split (n : Int) : ∀ (l : List Pt), Rises l → Split n l
  | [], _ => .no [] [] (by simp) (by simp)
  | q :: r, h => by
    obtain ⟨h1, h2⟩ := List.pairwise_cons.1 h
    by_cases e : q.n = n
    · exact .has [] q r e (by simp) (fun p hp => by have := h1 p hp; omega)
    by_cases e' : n < q.n
    · exact .no [] (q :: r) (by simp) (fun p hp => by
        rcases List.mem_cons.1 hp with rfl | hp
        · exact e'
        · have := h1 p hp; omega)
    · have hq : q.n < n := by omega
      cases split n r h2 with
      | has x p y hn hx hy => exact .has (q :: x) p y hn (all_cons (T := fun p => p.n < n) hq hx) hy
      | no x y hx hy => exact .no (q :: x) y (all_cons (T := fun p => p.n < n) hq hx) hy

/-- The part of this number, there or not, becomes what f says. -/
def upd (n : Int) (f : Option Pt → Pt) : List Pt → List Pt
  | [] => [f none]
  | q :: r => if q.n = n then f (some q) :: r else if n < q.n then f none :: q :: r else q :: upd n f r
def del (n : Int) : List Pt → List Pt
  | [] => []
  | q :: r => if q.n = n then r else q :: del n r
def find (n : Int) : List Pt → Option Pt
  | [] => none
  | q :: r => if q.n = n then some q else find n r
theorem upd_has {n : Int} {f : Option Pt → Pt} {q : Pt} {y : List Pt} (hn : q.n = n) : ∀ {x : List Pt}, (∀ p ∈ x, p.n < n) → upd n f (x ++ q :: y) = x ++ f (some q) :: y
  | [], _ => by simp [upd, hn]
  | p :: r, h => by
    have h1 := h p (by simp)
    rw [List.cons_append, upd, if_neg (by omega), if_neg (by omega), upd_has hn (fun z hz => h z (by simp [hz]))]
    rfl
theorem upd_no {n : Int} {f : Option Pt → Pt} {y : List Pt} (hy : ∀ p ∈ y, n < p.n) : ∀ {x : List Pt}, (∀ p ∈ x, p.n < n) → upd n f (x ++ y) = x ++ f none :: y
  | [], _ => by
    cases y with
    | nil => rfl
    | cons q r => have := hy q (by simp); simp only [List.nil_append, upd]; rw [if_neg (by omega), if_pos this]
  | p :: r, h => by
    have h1 := h p (by simp)
    rw [List.cons_append, upd, if_neg (by omega), if_neg (by omega), upd_no hy (fun z hz => h z (by simp [hz]))]
    rfl
theorem del_has {n : Int} {q : Pt} {y : List Pt} (hn : q.n = n) : ∀ {x : List Pt}, (∀ p ∈ x, p.n < n) → del n (x ++ q :: y) = x ++ y
  | [], _ => by simp [del, hn]
  | p :: r, h => by
    have h1 := h p (by simp)
    rw [List.cons_append, del, if_neg (by omega), del_has hn (fun z hz => h z (by simp [hz]))]
    rfl
theorem find_has {n : Int} {q : Pt} {y : List Pt} (hn : q.n = n) : ∀ {x : List Pt}, (∀ p ∈ x, p.n < n) → find n (x ++ q :: y) = some q
  | [], _ => by simp [find, hn]
  | p :: r, h => by
    have h1 := h p (by simp)
    rw [List.cons_append, find, if_neg (by omega), find_has hn (fun z hz => h z (by simp [hz]))]
theorem find_none_of {n : Int} : ∀ {x : List Pt}, (∀ p ∈ x, p.n ≠ n) → find n x = none
  | [], _ => rfl
  | p :: r, h => by rw [find, if_neg (h p (by simp)), find_none_of (fun z hz => h z (by simp [hz]))]
theorem find_no {n : Int} {x y : List Pt} (hx : ∀ p ∈ x, p.n < n) (hy : ∀ p ∈ y, n < p.n) : find n (x ++ y) = none :=
  find_none_of fun p hp => by
    rcases List.mem_append.1 hp with h | h
    · have := hx p h; omega
    · have := hy p h; omega

theorem rises_mid {x y : List Pt} {q p : Pt} (h : Rises (x ++ q :: y)) (hn : p.n = q.n) : Rises (x ++ p :: y) := by
  obtain ⟨h1, h2, h3⟩ := List.pairwise_append.1 h
  obtain ⟨h4, h5⟩ := List.pairwise_cons.1 h2
  refine List.pairwise_append.2 ⟨h1, List.pairwise_cons.2 ⟨fun z hz => by have := h4 z hz; omega, h5⟩, fun a ha b hb => ?_⟩
  rcases List.mem_cons.1 hb with rfl | hb
  · have := h3 a ha q (by simp); omega
  · exact h3 a ha b (by simp [hb])
theorem rises_out {x y : List Pt} {q : Pt} (h : Rises (x ++ q :: y)) : Rises (x ++ y) := by
  obtain ⟨h1, h2, h3⟩ := List.pairwise_append.1 h
  exact List.pairwise_append.2 ⟨h1, (List.pairwise_cons.1 h2).2, fun a ha b hb => h3 a ha b (by simp [hb])⟩
theorem rises_in {x y : List Pt} {n : Int} {p : Pt} (h : Rises (x ++ y)) (hn : p.n = n) (hx : ∀ p ∈ x, p.n < n) (hy : ∀ p ∈ y, n < p.n) : Rises (x ++ p :: y) := by
  obtain ⟨h1, h2, h3⟩ := List.pairwise_append.1 h
  refine List.pairwise_append.2 ⟨h1, List.pairwise_cons.2 ⟨fun z hz => by have := hy z hz; omega, h2⟩, fun a ha b hb => ?_⟩
  rcases List.mem_cons.1 hb with rfl | hb
  · have := hx a ha; omega
  · exact h3 a ha b hb
theorem Rises.mid {x y : List Pt} {q : Pt} (h : Rises (x ++ q :: y)) : (∀ p ∈ x, p.n < q.n) ∧ (∀ p ∈ y, q.n < p.n) := by
  obtain ⟨h1, h2, h3⟩ := List.pairwise_append.1 h
  exact ⟨fun p hp => h3 p hp q (by simp), (List.pairwise_cons.1 h2).1⟩
theorem mid_all {x y : List Pt} {q : Pt} {T : Pt → Prop} (h : ∀ p ∈ x ++ y, T p) (hq : T q) : ∀ p ∈ x ++ q :: y, T p := fun p hp => by
  rcases List.mem_append.1 hp with h1 | h1
  · exact h p (List.mem_append.2 (.inl h1))
  · rcases List.mem_cons.1 h1 with rfl | h1
    · exact hq
    · exact h p (List.mem_append.2 (.inr h1))
theorem all_out {x y : List Pt} {q : Pt} {T : Pt → Prop} (h : ∀ p ∈ x ++ q :: y, T p) : ∀ p ∈ x ++ y, T p := fun p hp => by
  rcases List.mem_append.1 hp with h1 | h1
  · exact h p (List.mem_append.2 (.inl h1))
  · exact h p (List.mem_append.2 (.inr (by simp [h1])))
theorem Inv.mid {rm : Nat} {x y : List Pt} {q p : Pt} (h : Inv rm (x ++ q :: y)) (hn : p.n = q.n) (hs : p.s ≤ p.b.length) (hu : used x + p.b.length + used y ≤ rm) : Inv rm (x ++ p :: y) where
  rise := rises_mid h.rise hn
  lo := mid_all (all_out h.lo) (by rw [hn]; exact h.lo q (by simp))
  hi := mid_all (all_out h.hi) (by rw [hn]; exact h.hi q (by simp))
  syn := mid_all (all_out h.syn) hs
  fits := by rw [used_app, used_cons]; omega
  room := h.room
theorem Inv.out {rm : Nat} {x y : List Pt} {q : Pt} (h : Inv rm (x ++ q :: y)) : Inv rm (x ++ y) where
  rise := rises_out h.rise
  lo := all_out h.lo
  hi := all_out h.hi
  syn := all_out h.syn
  fits := by have := h.fits; rw [used_app, used_cons] at this; rw [used_app]; omega
  room := h.room
theorem Inv.into {rm : Nat} {x y : List Pt} {p : Pt} (h : Inv rm (x ++ y)) (hx : ∀ q ∈ x, q.n < p.n) (hy : ∀ q ∈ y, p.n < q.n) (h0 : 0 ≤ p.n) (h1 : p.n ≤ 9223372036854775807) (hs : p.s ≤ p.b.length) (hu : used x + p.b.length + used y ≤ rm) : Inv rm (x ++ p :: y) where
  rise := rises_in h.rise rfl hx hy
  lo := mid_all h.lo h0
  hi := mid_all h.hi h1
  syn := mid_all h.syn hs
  fits := by rw [used_app, used_cons]; omega
  room := h.room
theorem Inv.nil {rm : Nat} (h : rm ≤ 65536) : Inv rm [] := ⟨List.Pairwise.nil, by simp, by simp, by simp, by simp [used], h⟩

/-- What stays of it: the synced bytes, and of the others the first ones, as long as keep lasts. -/
def crash : Nat → List Pt → List Pt
  | _, [] => []
  | k, p :: r => ⟨p.n, p.b.take (p.s + min k (p.b.length - p.s)), p.s + min k (p.b.length - p.s)⟩ :: crash (k - min k (p.b.length - p.s)) r
theorem crash_n : ∀ (k : Nat) (l : List Pt), (crash k l).map (·.n) = l.map (·.n)
  | _, [] => rfl
  | k, p :: r => by rw [crash, List.map_cons, List.map_cons, crash_n]
theorem crash_length : ∀ (k : Nat) (l : List Pt), (crash k l).length = l.length
  | _, [] => rfl
  | k, p :: r => by rw [crash, List.length_cons, List.length_cons, crash_length]
theorem crash_used : ∀ (k : Nat) (l : List Pt), used (crash k l) ≤ used l
  | _, [] => Nat.le_refl _
  | k, p :: r => by
    have := crash_used (k - min k (p.b.length - p.s)) r
    rw [crash, used_cons, used_cons]
    simp only [List.length_take]
    omega
theorem crash_all {T : Int → Prop} : ∀ (k : Nat) (l : List Pt), (∀ p ∈ l, T p.n) → ∀ p ∈ crash k l, T p.n
  | _, [], h, p, hp => by cases hp
  | k, q :: r, h, p, hp => by
    rw [crash] at hp
    rcases List.mem_cons.1 hp with rfl | hp
    · exact h q (by simp)
    · exact crash_all _ r (fun z hz => h z (by simp [hz])) p hp
theorem crash_syn : ∀ (k : Nat) (l : List Pt), (∀ p ∈ l, p.s ≤ p.b.length) → ∀ p ∈ crash k l, p.s ≤ p.b.length
  | _, [], h, p, hp => by cases hp
  | k, q :: r, h, p, hp => by
    have hq := h q (by simp)
    rw [crash] at hp
    rcases List.mem_cons.1 hp with rfl | hp
    · simp only [List.length_take]; omega
    · exact crash_syn _ r (fun z hz => h z (by simp [hz])) p hp
theorem crash_rises : ∀ (k : Nat) (l : List Pt), Rises l → Rises (crash k l)
  | _, [], _ => List.Pairwise.nil
  | k, p :: r, h => by
    obtain ⟨h1, h2⟩ := List.pairwise_cons.1 h
    rw [crash]
    exact List.pairwise_cons.2 ⟨crash_all (T := fun n => p.n < n) _ r h1, crash_rises _ r h2⟩
theorem Inv.crash {rm : Nat} {l : List Pt} (h : Inv rm l) (k : Nat) : Inv rm (crash k l) where
  rise := crash_rises k l h.rise
  lo := crash_all (T := fun n => 0 ≤ n) k l h.lo
  hi := crash_all (T := fun n => n ≤ 9223372036854775807) k l h.hi
  syn := crash_syn k l h.syn
  fits := Nat.le_trans (crash_used k l) h.fits
  room := h.room

/-! ### the same as a map's reading -/
section
abbrev En := Lit × DataW Value
/-- Every value reads as itself. -/
def RV (v : Value) : Option (DataW Value × List MemPlace) := some (.held v, [])
def entV (p : Pt) (v : Value) : Value := .agg #[v, .int .i64 (p.s : Nat)]
def ent (x : Pt × Value) : En := (.int .i64 x.1.n, .held (entV x.1 x.2))
def ents (xs : List (Pt × Value)) : DataW Value := .map (xs.map ent)

theorem same_int (a b : Int) : (Lit.int .i64 a).sameKey (.int .i64 b) = decide (a = b) := by simp [Lit.sameKey]
theorem filter_all {n : Int} {xs : List (Pt × Value)} (h : ∀ x ∈ xs, x.1.n ≠ n) : (xs.map ent).filter (fun p => !p.1.sameKey (.int .i64 n)) = xs.map ent := by
  rw [List.filter_eq_self]
  intro p hp
  obtain ⟨x, hx, rfl⟩ := List.mem_map.1 hp
  simp [ent, same_int, h x hx]
theorem filter_mid {n : Int} {xs ys : List (Pt × Value)} {q : Pt × Value} (hn : q.1.n = n) (hx : ∀ x ∈ xs, x.1.n ≠ n) (hy : ∀ x ∈ ys, x.1.n ≠ n) :
    ((xs ++ q :: ys).map ent).filter (fun p => !p.1.sameKey (.int .i64 n)) = (xs ++ ys).map ent := by
  rw [List.map_append, List.map_cons, List.filter_append, List.filter_cons, if_neg (by simp [ent, same_int, hn]), filter_all hx, filter_all hy, List.map_append]
theorem insert_mid {p : Pt × Value} {ys : List (Pt × Value)} (hy : ∀ x ∈ ys, p.1.n < x.1.n) : ∀ {xs : List (Pt × Value)}, (∀ x ∈ xs, x.1.n < p.1.n) →
    DataW.insert (ent p) ((xs ++ ys).map ent) = (xs ++ p :: ys).map ent
  | [], _ => by
    cases ys with
    | nil => rfl
    | cons q r => have := hy q (by simp); simp [DataW.insert, ent, Lit.before, this]
  | q :: r, h => by
    have h1 := h q (by simp)
    rw [List.cons_append, List.map_cons, DataW.insert, if_neg (by simp [ent, Lit.before]; omega), insert_mid hy (fun z hz => h z (by simp [hz]))]
    rfl
variable {n : Int} {xs ys : List (Pt × Value)} {q p : Pt × Value}
theorem put_has (hq : q.1.n = n) (hp : p.1.n = n) (hx : ∀ x ∈ xs, x.1.n < n) (hy : ∀ x ∈ ys, n < x.1.n) : (ents (xs ++ q :: ys)).put (.int .i64 n) (.held (entV p.1 p.2)) = ents (xs ++ p :: ys) := by
  have h := insert_mid (p := p) (ys := ys) (fun x h => by rw [hp]; exact hy x h) (fun x h => by rw [hp]; exact hx x h)
  unfold ents DataW.put
  simp only
  rw [filter_mid hq (fun x h => by have := hx x h; omega) (fun x h => by have := hy x h; omega), ← h]
  simp [ent, hp]
theorem put_no (hp : p.1.n = n) (hx : ∀ x ∈ xs, x.1.n < n) (hy : ∀ x ∈ ys, n < x.1.n) : (ents (xs ++ ys)).put (.int .i64 n) (.held (entV p.1 p.2)) = ents (xs ++ p :: ys) := by
  have h := insert_mid (p := p) (ys := ys) (fun x h => by rw [hp]; exact hy x h) (fun x h => by rw [hp]; exact hx x h)
  unfold ents DataW.put
  simp only
  rw [filter_all (fun x h => by rcases List.mem_append.1 h with h | h; (have := hx x h; omega); (have := hy x h; omega)), ← h]
  simp [ent, hp]
theorem del_ents (hq : q.1.n = n) (hx : ∀ x ∈ xs, x.1.n < n) (hy : ∀ x ∈ ys, n < x.1.n) : (ents (xs ++ q :: ys)).del (.int .i64 n) = ents (xs ++ ys) := by
  unfold ents DataW.del
  simp only
  rw [filter_mid hq (fun x h => by have := hx x h; omega) (fun x h => by have := hy x h; omega)]
theorem has_mid (hq : q.1.n = n) : Maps.has (ents (xs ++ q :: ys)) (.int .i64 n) = true := by
  unfold ents
  rw [Maps.has_eq, List.any_eq_true]
  exact ⟨ent q, by simp, by simp [ent, same_int, hq]⟩
theorem has_no (hx : ∀ x ∈ xs, x.1.n ≠ n) : Maps.has (ents xs) (.int .i64 n) = false := by
  unfold ents
  rw [Maps.has_eq, List.any_eq_false]
  intro e he
  obtain ⟨x, h, rfl⟩ := List.mem_map.1 he
  simp [ent, same_int, hx x h]
theorem at_mid (hq : q.1.n = n) (hx : ∀ x ∈ xs, x.1.n < n) (z : DataW Value) : (ents (xs ++ q :: ys)).atKey (.int .i64 n) z = .held (entV q.1 q.2) := by
  have hf : ((xs ++ q :: ys).map ent).find? (fun p => p.1.sameKey (.int .i64 n)) = some (ent q) := by
    rw [List.map_append, List.find?_append, List.find?_eq_none.2, List.map_cons, List.find?_cons_of_pos (by simp [ent, same_int, hq])]
    · rfl
    · intro e he
      obtain ⟨x, h, rfl⟩ := List.mem_map.1 he
      have := hx x h
      simp [ent, same_int]; omega
  unfold ents DataW.atKey
  simp only [hf]
  rfl
theorem at_no (hx : ∀ x ∈ xs, x.1.n ≠ n) (z : DataW Value) : (ents xs).atKey (.int .i64 n) z = z := Maps.atKey_of_not_has (has_no hx) z
end
end Go.Proofs.Ytgohgmihoggcpaa
