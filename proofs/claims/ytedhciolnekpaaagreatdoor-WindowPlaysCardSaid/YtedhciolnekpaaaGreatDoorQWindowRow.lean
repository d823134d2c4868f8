/-
  Layer 20 (window): rows in a row of one's own, one laid among them, one turned; where a name's row lies.
-/
import Derived.Test.YtedhciolnekpaaaGreatDoorGrpA
import Derived.Test.YtedhciolnekpaaaGreatDoorGrpL
namespace Go.Proofs.YtedhciolnekpaaaGreatDoor
open Go.ChangeShapes Go.WideShapes Go.ChangeAt Go.RowKit
set_option linter.unusedVariables false

/-- Where the row of a name lies, or would lie, among rows. -/
def atR (n : Nm) : List Rw → Nat
  | [] => 0
  | r :: l => if ltW (nmR r) n = true then atR n l + 1 else 0
theorem atR_le (n : Nm) : ∀ (l : List Rw), atR n l ≤ l.length
  | [] => Nat.le_refl _
  | r :: l => by
    have := atR_le n l
    unfold atR
    split
    · rw [List.length_cons]; omega
    · simp
theorem atR_lt {n : Nm} : ∀ {l : List Rw} {i : Nat} {r : Rw}, i < atR n l → l[i]? = some r → ltW (nmR r) n = true
  | [], i, r, h, hx => by simp at hx
  | y :: l, i, r, h, hx => by
    unfold atR at h
    split at h
    · rename_i c
      cases i with
      | zero =>
        simp at hx
        subst hx
        exact c
      | succ i => exact atR_lt (l := l) (i := i) (by omega) (by simpa using hx)
    · omega
theorem atR_at {n : Nm} : ∀ {l : List Rw} {r : Rw}, l[atR n l]? = some r → ltW (nmR r) n = false
  | [], r, hx => by simp at hx
  | y :: l, r, hx => by
    unfold atR at hx
    split at hx
    · exact atR_at (l := l) (by simpa using hx)
    · rename_i c
      simp at hx
      subst hx
      exact Bool.eq_false_iff.2 c
theorem putW_old {n : Nm} {v : Int} : ∀ {l : List Rw} {r : Rw}, l[atR n l]? = some r → nmR r = n → putW n v l = l.set (atR n l) (comeR r v)
  | [], r, hx, _ => by simp at hx
  | y :: l, r, hx, h => by
    unfold atR at hx ⊢
    unfold putW
    split at hx
    · rename_i c
      rw [if_pos c, putW_old (l := l) (by simpa using hx) h, if_pos c, List.set_cons_succ]
    · rename_i c
      simp at hx
      subst hx
      rw [if_neg c, if_pos h, if_neg c, List.set_cons_zero]
theorem putW_new {n : Nm} {v : Int} : ∀ {l : List Rw}, (∀ r, l[atR n l]? = some r → nmR r ≠ n) → putW n v l = l.take (atR n l) ++ [beginR n.1 n.2 v] ++ l.drop (atR n l)
  | [], _ => by simp [putW, atR]
  | y :: l, h => by
    unfold atR at h ⊢
    unfold putW
    by_cases c : ltW (nmR y) n = true
    · rw [if_pos c] at h
      rw [if_pos c, if_pos c, putW_new (l := l) (fun r hr => h r (by simpa using hr))]
      simp
    · rw [if_neg c] at h
      rw [if_neg c, if_neg c, if_neg (h y (by simp))]
      simp

theorem elR : ElK 38 55 8 := ElK.of (bs := 88) (z := .agg #[.string ⟨#[]⟩, .int .i64 0, .int .u64 0, .int .i64 0, .int .i64 0, .int .i64 0, .bool false, .slice none 0 0]) Tryz.underlying38 (by kernel_rfl) (by kernel_rfl) rfl (by omega) (by omega)
/-- A row with where its buckets lie. -/
abbrev RbW := Rw × Option Addr × Nat
theorem rowCells_app (x y : List RbW) : rowCells (x ++ y) = rowCells x ++ rowCells y := by simp [rowCells]
theorem rowCells_one (l : List RbW) : ∀ u ∈ rowCells l, u.oneCell' = true := fun u hu => by
  obtain ⟨x, _, hu⟩ := List.mem_flatMap.1 hu
  simp only [rowOf, List.mem_cons, List.not_mem_nil, or_false] at hu
  rcases hu with rfl | rfl | rfl | rfl | rfl | rfl | rfl | rfl <;> rfl
theorem rowCells_take (l : List RbW) (k : Nat) (hk : k ≤ l.length) : rowCells (l.take k) = (rowCells l).take (k * 8) := by
  have e : rowCells l = rowCells (l.take k) ++ rowCells (l.drop k) := by rw [← rowCells_app, List.take_append_drop]
  have hl : (rowCells (l.take k)).length = k * 8 := by rw [rowCells_length, List.length_take]; congr 1; omega
  exact (List.take_left' hl).symm.trans (congrArg (List.take (k * 8)) e.symm)
theorem rowCells_drop (l : List RbW) (k : Nat) (hk : k ≤ l.length) : rowCells (l.drop k) = (rowCells l).drop (k * 8) := by
  have e : rowCells l = rowCells (l.take k) ++ rowCells (l.drop k) := by rw [← rowCells_app, List.take_append_drop]
  have hl : (rowCells (l.take k)).length = k * 8 := by rw [rowCells_length, List.length_take]; congr 1; omega
  exact (List.drop_left' hl).symm.trans (congrArg (List.drop (k * 8)) e.symm)
/-- Numbers of one's own stay where rows grow. -/
theorem ownN_kept {w w' : World} {base base' : Nat} {B D : Option Addr} {c d n : Nat} {l : List Nat} {cs : List Value} (h : OwnN w base B c l) (hO : OwK w base' 55 8 D d n cs) (g : w.grownBy w' (Value.slice D n d).ownBlock) : OwnN w' base B c l :=
  owns_kept h g (fun b hb => by
    obtain ⟨c', f, hc⟩ := owns_block hO b hb
    exact .inr ⟨c', f, _, hc, by decide⟩)
/-- A row laid among rows: ahead of the call that makes it, and behind. -/
theorem lay_pre {X : World} {base : Nat} {D : Option Addr} {d : Nat} {l : List RbW} {a : Nat} (h : OwnL X base D d l) (ha : a ≤ l.length) (hl : l.length ≤ 900) :
    ∃ D1 d1 w2, (∀ w', (Instr.slice 38 (.slice D l.length d) none (some (.int .i64 (a : Int))) none).run Tryz.prog w' = .ok (.slice D a d) w') ∧
      (Builtin.append_ #[38, 38] 38 #[.slice (some ⟨X.heap.size, 0, none⟩) 0 0, .slice D a d]).run Tryz.prog (X.alloc (.cells #[] 55)) = .ok (.slice D1 a d1) w2 ∧
      OwK w2 X.heap.size 55 8 D1 d1 a (rowCells (l.take a)) ∧ Below X.heap.size X w2 := by
  have ow : OwK X base 55 8 D d l.length (rowCells l) := h.own
  have rc := OwK.rd ow
  have hle := rc.le
  obtain ⟨D1, d1, w2, r1, o1, b1⟩ := preK elR rc (rowCells_one l) ha (by omega)
  exact ⟨D1, d1, w2, fun w' => toK elR D l.length d a (by omega) w', r1, by rw [rowCells_take l a ha]; exact o1, b1⟩
theorem lay_post {X w3 : World} {base : Nat} {D D1 : Option Addr} {d d1 : Nat} {l : List RbW} {a : Nat} (h : OwnL X base D d l) (hX : base ≤ X.heap.size) (hb3 : Below X.heap.size X w3) (ha : a ≤ l.length) (hl : l.length ≤ 900)
    (o1 : OwK w3 X.heap.size 55 8 D1 d1 a (rowCells (l.take a))) {r : Rw} {B : Option Addr} {c : Nat} (hN : OwnN w3 base B c r.bks) :
    ∃ D2 d2 w4 A3 n3 c3 D3 d3 w5,
      (Builtin.append_ #[38, 38] 38 #[.slice D1 a d1, .slice (some ⟨w3.heap.size, 0, none⟩) 1 1]).run Tryz.prog (w3.alloc (rowObj r B c)) = .ok (.slice D2 (a + 1) d2) w4 ∧
      (∀ w', (Instr.slice 38 (.slice D l.length d) (some (.int .i64 (a : Int))) none none).run Tryz.prog w' = .ok (.slice A3 n3 c3) w') ∧
      (Builtin.append_ #[38, 38] 38 #[.slice D2 (a + 1) d2, .slice A3 n3 c3]).run Tryz.prog w4 = .ok (.slice D3 (l.length + 1) d3) w5 ∧
      OwnL w5 base D3 d3 (l.take a ++ [(r, B, c)] ++ l.drop a) ∧ Below X.heap.size X w5 := by
  have ow : OwK X base 55 8 D d l.length (rowCells l) := h.own
  have rc := OwK.rd ow
  have hle := rc.le
  obtain ⟨D2, d2, w4, r2, o2, b2, g2⟩ := oneK elR o1 (es := rowOf r B c) rfl (fun u hu => by
    simp only [rowOf, List.mem_cons, List.not_mem_nil, or_false] at hu
    rcases hu with rfl | rfl | rfl | rfl | rfl | rfl | rfl | rfl <;> rfl) (ob := rowObj r B c) rfl (by omega) hb3.size
  obtain ⟨A3, sl3, rd3⟩ := fromK elR D d l.length a (rowCells l) ha hle
  have b4 := hb3.trans b2
  have r3' := rd3 w4 (rc.below b4)
  obtain ⟨D3, d3, w5, r3, o3, b3, g3⟩ := appK elR o2 r3' (fun u hu => rowCells_one l u (List.mem_of_mem_drop hu)) (by omega) b4.size
  rw [show a + 1 + (l.length - a) = l.length + 1 by omega] at r3 o3
  have b5 := b4.trans b3
  refine ⟨D2, d2, w4, A3, l.length - a, d - a, D3, d3, w5, r2, sl3, r3, ⟨?_, ?_⟩, b5⟩
  · have e : rowCells (l.take a ++ [(r, B, c)] ++ l.drop a) = rowCells (l.take a) ++ rowOf r B c ++ (rowCells l).drop (a * 8) := by
      rw [rowCells_app, rowCells_app, rowCells_drop l a ha]
      simp [rowCells]
    have hlen : (l.take a ++ [(r, B, c)] ++ l.drop a).length = l.length + 1 := by simp; omega
    rw [hlen, e]
    exact OwK.mono o3 hX
  · intro x hx
    have hk : OwnN w3 base x.2.1 x.2.2 x.1.bks := by
      rcases List.mem_append.1 hx with hx | hx
      · rcases List.mem_append.1 hx with hx | hx
        · exact owns_below (h.bks x (List.mem_of_mem_take hx)) hb3
        · obtain rfl : x = (r, B, c) := by simpa using hx
          exact hN
      · exact owns_below (h.bks x (List.mem_of_mem_drop hx)) hb3
    have h4 : OwnN w4 base x.2.1 x.2.2 x.1.bks := ownN_kept (World.ownsRow.alloc hk _) (World.ownsRow.alloc o1 _) g2
    exact ownN_kept h4 o2 g3
/-- A row stored in a row's place, as the walk does it. -/
def putAt (w : World) (g o : Nat) (r : Rw) (B : Option Addr) (c : Nat) : World :=
  (((((((w.setCell ⟨g, o, none⟩ (.string r.key)).setCell ⟨g, o + 1, none⟩ (.int .i64 r.kind)).setCell ⟨g, o + 2, none⟩ (.int .u64 (r.many : Nat))).setCell ⟨g, o + 3, none⟩ (.int .i64 r.sum)).setCell ⟨g, o + 4, none⟩ (.int .i64 r.least)).setCell ⟨g, o + 5, none⟩ (.int .i64 r.most)).setCell ⟨g, o + 6, none⟩ (.bool r.over)).setCell ⟨g, o + 7, none⟩ (.slice B r.bks.length c)
theorem putAt_grown (w : World) (g o : Nat) (r : Rw) (B : Option Addr) (c : Nat) : w.grownBy (putAt w g o r B c) (some g) := by
  unfold putAt
  exact (gset (gset (gset (gset (gset (gset (gset (gset (grown_refl w _)))))))))
theorem set_row (l : List RbW) (a : Nat) (x : RbW) (ha : a < l.length) : ((((((((rowCells l).set (a * 8) (.string x.1.key)).set (a * 8 + 1) (.int .i64 x.1.kind)).set (a * 8 + 2) (.int .u64 (x.1.many : Nat))).set (a * 8 + 3) (.int .i64 x.1.sum)).set (a * 8 + 4) (.int .i64 x.1.least)).set (a * 8 + 5) (.int .i64 x.1.most)).set (a * 8 + 6) (.bool x.1.over)).set (a * 8 + 7) (.slice x.2.1 x.1.bks.length x.2.2) = rowCells (l.set a x) := by
  induction l generalizing a with
  | nil => simp at ha
  | cons y l ih =>
    have e : ∀ z : RbW, rowCells (z :: l) = rowOf z.1 z.2.1 z.2.2 ++ rowCells l := fun z => by simp [rowCells]
    cases a with
    | zero =>
      rw [List.set_cons_zero, e, e]
      simp [rowOf]
    | succ a =>
      have h := ih a (by simpa using ha)
      have e2 : rowCells (y :: l.set a x) = rowOf y.1 y.2.1 y.2.2 ++ rowCells (l.set a x) := by simp [rowCells]
      rw [List.set_cons_succ, e2, e, ← h]
      have h8 : (rowOf y.1 y.2.1 y.2.2).length = 8 := rfl
      have k : ∀ (xs : List Value) (j : Nat) (u : Value), (rowOf y.1 y.2.1 y.2.2 ++ xs).set ((a + 1) * 8 + j) u = rowOf y.1 y.2.1 y.2.2 ++ xs.set (a * 8 + j) u := fun xs j u => by
        rw [List.set_append_right _ _ (by omega), h8]
        congr 2
        omega
      have k0 : ∀ (xs : List Value) (u : Value), (rowOf y.1 y.2.1 y.2.2 ++ xs).set ((a + 1) * 8) u = rowOf y.1 y.2.1 y.2.2 ++ xs.set (a * 8) u := fun xs u => by simpa using k xs 0 u
      rw [k0, k, k, k, k, k, k, k]
theorem putAt_own {w : World} {base g : Nat} {d : Nat} {l : List RbW} {a : Nat} (h : OwnL w base (some ⟨g, 0, none⟩) d l) (ha : a < l.length) {r : Rw} {B : Option Addr} {c : Nat} (hN : OwnN w base B c r.bks) :
    OwnL (putAt w g (a * 8) r B c) base (some ⟨g, 0, none⟩) d (l.set a (r, B, c)) := by
  have o0 : OwK w base 55 8 (some ⟨g, 0, none⟩) d l.length (rowCells l) := h.own
  refine ⟨?_, fun x hx => ?_⟩
  · rw [List.length_set, ← set_row l a (r, B, c) ha]
    have s0 := (World.ownsRow.stored o0 (a * 8) (.string r.key)).1
    have s1 := (World.ownsRow.stored s0 (a * 8 + 1) (.int .i64 r.kind)).1
    have s2 := (World.ownsRow.stored s1 (a * 8 + 2) (.int .u64 (r.many : Nat))).1
    have s3 := (World.ownsRow.stored s2 (a * 8 + 3) (.int .i64 r.sum)).1
    have s4 := (World.ownsRow.stored s3 (a * 8 + 4) (.int .i64 r.least)).1
    have s5 := (World.ownsRow.stored s4 (a * 8 + 5) (.int .i64 r.most)).1
    have s6 := (World.ownsRow.stored s5 (a * 8 + 6) (.bool r.over)).1
    exact (World.ownsRow.stored s6 (a * 8 + 7) (.slice B r.bks.length c)).1
  · have hk : OwnN w base x.2.1 x.2.2 x.1.bks := by
      rcases List.mem_or_eq_of_mem_set hx with hx | rfl
      · exact h.bks x hx
      · exact hN
    exact ownN_kept hk o0 (putAt_grown w g (a * 8) r B c)
theorem putAt_below {N : Nat} {w w1 : World} {g o : Nat} (h : Below N w w1) (hk : N ≤ g) (r : Rw) (B : Option Addr) (c : Nat) : Below N w (putAt w1 g o r B c) := by
  unfold putAt
  exact (bset (bset (bset (bset (bset (bset (bset (bset h hk) hk) hk) hk) hk) hk) hk) hk)
end Go.Proofs.YtedhciolnekpaaaGreatDoor
