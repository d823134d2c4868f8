/-
  Layer 9 (journal), what is of no program: a record's bytes, records one behind another and what is read of them, also where they are torn; a journal's parts and records, and what an append makes of them.
-/
import Derived.Test.YtgohgmihoggcpaaWirePure
import Derived.Test.YtgohgmihoggcpaaDiskUp
namespace Go.Proofs.Ytgohgmihoggcpaa
set_option linter.unusedVariables false

abbrev Rc := List UInt8
def encR (r : Rc) : List UInt8 := enc r.length ++ r
def flat : List Rc → List UInt8
  | [] => []
  | r :: l => encR r ++ flat l
def GoodR (r : Rc) : Prop := 1 ≤ r.length ∧ r.length ≤ 4096
theorem encT_arr (r : Rc) : encT ⟨r.toArray⟩ = encR r := by
  unfold encT encR
  simp [ByteArray.size]
theorem flat_app : ∀ (x y : List Rc), flat (x ++ y) = flat x ++ flat y
  | [], y => rfl
  | r :: x, y => by rw [List.cons_append, flat, flat, flat_app x y, List.append_assoc]
theorem flat_one (r : Rc) : flat [r] = encR r := by simp [flat]
theorem flat_snoc (x : List Rc) (r : Rc) : flat (x ++ [r]) = flat x ++ encR r := by rw [flat_app, flat_one]
theorem encR_length {r : Rc} (h : GoodR r) : (encR r).length ≤ r.length + 10 := by
  have := enc_length r.length (by have := h.2; omega)
  unfold encR
  rw [List.length_append]; omega
theorem encR_pos (r : Rc) : 0 < (encR r).length := by
  have := enc_pos r.length
  unfold encR
  rw [List.length_append]; omega
/-- No whole record stands at the head. -/
def Torn (t : List UInt8) : Prop := ∀ n k, decF 0 0 t = some (n, k) → n = 0 ∨ 4096 < n ∨ t.length - k < n
theorem torn_nil : Torn [] := fun n k h => by rw [dec_nil] at h; cases h
theorem read_next (x : List Rc) (r : Rc) (rest : List UInt8) (h : GoodR r) :
    rsText (flat x ++ (encR r ++ rest)) 4096 ⟨(flat x).length, false⟩ = (r, ⟨(flat (x ++ [r])).length, false⟩) := by
  have h1 := h.1
  have h2 := h.2
  have hd : decF 0 0 (encR r ++ rest) = some (r.length, (enc r.length).length) := by
    have := dec_enc r.length 0 0 (r ++ rest) (by omega) (by simp; omega) (by omega)
    unfold encR
    rw [List.append_assoc, this]
    simp
  unfold rsText
  simp only [Bool.false_eq_true, if_false, List.drop_left, hd]
  have e1 : (flat x ++ (encR r ++ rest)).length - ((flat x).length + (enc r.length).length) = r.length + rest.length := by
    unfold encR
    simp only [List.length_append]; omega
  rw [if_neg (by rw [e1]; omega)]
  congr 1
  · rw [← List.drop_drop, List.drop_left]
    unfold encR
    rw [List.append_assoc, List.drop_left, List.take_left]
  · rw [flat_snoc, List.length_append]
    unfold encR
    rw [List.length_append, Nat.add_assoc]
theorem read_torn (x : List Rc) (t : List UInt8) (h : Torn t) : (rsText (flat x ++ t) 4096 ⟨(flat x).length, false⟩).1 = [] := by
  unfold rsText
  simp only [Bool.false_eq_true, if_false, List.drop_left]
  cases hd : decF 0 0 t with
  | none => rfl
  | some p =>
    obtain ⟨n, k⟩ := p
    simp only
    split
    · rfl
    · rename_i hc
      rcases h n k hd with e | e | e
      · subst e; simp
      · omega
      · rw [List.length_append] at hc; omega
theorem dec_short : ∀ (l : List UInt8) (i a : Nat) (z : List UInt8) (p : Nat × Nat), decF i a l = some p → decF i a (l ++ z) = some p
  | [], i, a, z, p, h => by rw [dec_nil] at h; cases h
  | c :: l, i, a, z, p, h => by
    rw [dec_cons] at h
    rw [List.cons_append, dec_cons]
    unfold decStep at h ⊢
    split
    · rename_i h1; rw [if_pos h1] at h; cases h
    · rename_i h1
      rw [if_neg h1] at h
      split
      · rename_i h2
        rw [if_pos h2] at h
        exact h
      · rename_i h2
        rw [if_neg h2] at h
        exact dec_short l _ _ z p h
theorem torn_take {r : Rc} (h : GoodR r) (z : List UInt8) {m : Nat} (hm : m < (encR r).length) : Torn ((encR r ++ z).take m) := by
  intro n k hd
  have h1 := h.1
  have h2 := h.2
  have e1 : (encR r ++ z).take m = (encR r).take m := by rw [List.take_append_of_le_length (by omega)]
  rw [e1] at hd ⊢
  have hs := dec_short _ 0 0 ((encR r).drop m) _ hd
  rw [List.take_append_drop] at hs
  have hg : decF 0 0 (encR r) = some (0 + r.length * 128 ^ 0, 0 + (enc r.length).length) := dec_enc r.length 0 0 r (by omega) (by simp; omega) (by omega)
  rw [hg] at hs
  cases hs
  refine .inr (.inr ?_)
  rw [List.length_take]
  unfold encR at hm ⊢
  rw [List.length_append] at hm ⊢
  simp
  omega
theorem cut_records : ∀ (rs : List Rc), (∀ r ∈ rs, GoodR r) → ∀ (m : Nat), ∃ q t, q ≤ rs.length ∧ (flat rs).take m = flat (rs.take q) ++ t ∧ Torn t ∧ ∀ j, j ≤ rs.length → (flat (rs.take j)).length ≤ m → j ≤ q
  | [], _, m => ⟨0, [], by simp, by simp [flat], torn_nil, fun j hj _ => hj⟩
  | r :: rs, h, m => by
    have hr := h r (by simp)
    by_cases hm : (encR r).length ≤ m
    · obtain ⟨q, t, h1, h2, h3, h4⟩ := cut_records rs (fun x hx => h x (by simp [hx])) (m - (encR r).length)
      refine ⟨q + 1, t, by simp [h1], ?_, h3, fun j hj hl => ?_⟩
      · rw [flat, List.take_append, List.take_of_length_le hm, h2, List.take_succ_cons, flat, List.append_assoc]
      · cases j with
        | zero => omega
        | succ j =>
          rw [List.take_succ_cons, flat, List.length_append] at hl
          have := h4 j (by simpa using hj) (by omega)
          omega
    · refine ⟨0, (encR r ++ flat rs).take m, by simp, by simp [flat], torn_take hr _ (by omega), fun j hj hl => ?_⟩
      cases j with
      | zero => omega
      | succ j =>
        rw [List.take_succ_cons, flat, List.length_append] at hl
        omega

/-! ### a journal: its parts' numbers P, its records R -/
def jFirst (P : List Int) : Int := P.headD 0
def jNext (P : List Int) (R : List Rc) : Int := jFirst P + (R.length : Nat)
def jLast (P : List Int) : Int := P.getLastD 0
def jSync (dn : Bool) (L : List Pt) (P : List Int) : Nat × List Pt := if P = [] then (0, L) else opSync dn L (jLast P)
def jFull (many : Int) (P : List Int) (R : List Rc) : Bool := decide (P = []) || decide (many ≤ jNext P R - jLast P)
structure Jr where
  c : Nat
  L : List Pt
  P : List Int
  R : List Rc
def jBegin (rm : Nat) (dn : Bool) (L : List Pt) (P : List Int) (R : List Rc) (b : Rc) : Jr :=
  if (jSync dn L P).1 = 0 then
    (if (opAppend rm dn (jSync dn L P).2 (jNext P R) (encR b)).1 = 0 then ⟨0, (opAppend rm dn (jSync dn L P).2 (jNext P R) (encR b)).2, P ++ [jNext P R], R ++ [b]⟩
     else ⟨(opAppend rm dn (jSync dn L P).2 (jNext P R) (encR b)).1, (opAppend rm dn (jSync dn L P).2 (jNext P R) (encR b)).2, P, R⟩)
  else ⟨(jSync dn L P).1, (jSync dn L P).2, P, R⟩
def jAppend (rm : Nat) (dn : Bool) (many : Int) (L : List Pt) (P : List Int) (R : List Rc) (b : Rc) : Jr :=
  if jFull many P R = true then jBegin rm dn L P R b
  else if (opAppend rm dn L (jLast P) (encR b)).1 = 0 then ⟨0, (opAppend rm dn L (jLast P) (encR b)).2, P, R ++ [b]⟩
  else ⟨(opAppend rm dn L (jLast P) (encR b)).1, (opAppend rm dn L (jLast P) (encR b)).2, P, R⟩

/-! ### a part as its records, and what is torn behind them -/
structure Sg where
  n : Int
  rs : List Rc
  t : List UInt8
  s : Nat
def Sg.pt (g : Sg) : Pt := ⟨g.n, flat g.rs ++ g.t, g.s⟩
def Sg.cut (g : Sg) : Pt := ⟨g.n, flat g.rs, (flat g.rs).length⟩
def recs (G : List Sg) : List Rc := (G.map (·.rs)).flatten
def Chain : Int → List Sg → Prop
  | _, [] => True
  | n, g :: G => g.n = n ∧ Chain (n + (g.rs.length : Nat)) G
structure Sg.Good (g : Sg) : Prop where
  good : ∀ r ∈ g.rs, GoodR r
  torn : Torn g.t
theorem recs_nil : recs [] = [] := rfl
theorem recs_cons (g : Sg) (G : List Sg) : recs (g :: G) = g.rs ++ recs G := rfl
theorem recs_app (G H : List Sg) : recs (G ++ H) = recs G ++ recs H := by unfold recs; rw [List.map_append, List.flatten_append]
end Go.Proofs.Ytgohgmihoggcpaa
