/-
  Layer 8: deeds that were handed in, as a list.
-/
import Derived.Test.YtodleafebjkdmaaDiskOpen
import Derived.Deep.SlicePairs
import Derived.Deep.Fields
namespace Go.Proofs.Ytodleafebjkdmaa
open Go.ChangeShapes Go.WideShapes Go.ChangeAt Go.RowKit Go.Deep
set_option linter.unusedVariables false

/-- A deed: which it is, the part's number, a size, bytes. -/
structure De where
  t : Int
  n : Int
  z : Int
  b : List UInt8
def deOf (d : De) (B : Option Addr) (c : Nat) : List Value := [.int .i64 d.t, .int .i64 d.n, .int .i64 d.z, .slice B d.b.length c]
structure DeAt (w : World) (b k : Nat) (d : De) (B : Option Addr) (c : Nat) : Prop where
  p0 : w.cell? ⟨b, k, none⟩ = some (.int .i64 d.t)
  p1 : w.cell? ⟨b, k + 1, none⟩ = some (.int .i64 d.n)
  p2 : w.cell? ⟨b, k + 2, none⟩ = some (.int .i64 d.z)
  p3 : w.cell? ⟨b, k + 3, none⟩ = some (.slice B d.b.length c)
  bs : RdS w B c d.b
def RdDe (w : World) (A : Option Addr) (l : List De) : Prop := l = [] ∨ ∃ b o, A = some ⟨b, o, none⟩ ∧ ∀ i d, l[i]? = some d → ∃ B c, DeAt w b (o + i * 4) d B c
theorem DeAt.below {w w' : World} {b k : Nat} {d : De} {B : Option Addr} {c : Nat} (h : DeAt w b k d B c) (hb : Below w.heap.size w w') : DeAt w' b k d B c := by
  have hl := World.block_lt_of_cell? w _ h.p0
  have hk : ∀ o, w'.cell? ⟨b, o, none⟩ = w.cell? ⟨b, o, none⟩ := fun o => hb.cell (p := ⟨b, o, none⟩) hl
  exact ⟨by rw [hk]; exact h.p0, by rw [hk]; exact h.p1, by rw [hk]; exact h.p2, by rw [hk]; exact h.p3, h.bs.below hb (Nat.le_refl _)⟩
theorem RdDe.at {w : World} {A : Option Addr} {l : List De} (h : RdDe w A l) {i : Nat} {d : De} (hi : l[i]? = some d) : ∃ b o B c, A = some ⟨b, o, none⟩ ∧ DeAt w b (o + i * 4) d B c := by
  rcases h with rfl | ⟨b, o, e, hc⟩
  · simp at hi
  · obtain ⟨B, c, ha⟩ := hc i d hi
    exact ⟨b, o, B, c, e, ha⟩
theorem cells_int : Try.prog.cellsOf 3 = 1 := by kernel_rfl
theorem cells_bs : Try.prog.cellsOf 34 = 1 := by kernel_rfl
theorem cells_de : Try.prog.cellsOf 36 = 4 := by kernel_rfl
section
variable {H : Type} {enc : TypeId × Value → H} {W : World}
theorem open_bs {fuel : Nat} {cs : List Value} {x : DataW H × List MemPlace} (h : DataW.trod enc Try.prog W 0 (fun _ => true) true fuel 34 cs = some x) :
    ∃ (A : Option Addr) (cap : Nat) (l : List UInt8), cs = [.slice A l.length cap] ∧ RdS W A cap l ∧ l.length ≤ maxLen := by
  rcases open_ints Try.underlying34 Try.underlying5 cells_u8 h with ⟨hcs, hx⟩ | ⟨a, len, cap, zs, hcs, _, hl, hm, hz, hx, hcell, hwz⟩
  · exact ⟨none, 0, [], by rw [hcs]; rfl, RdS.nil W, by simp⟩
  · simp only [if_true] at hz
    have hlen : ((zs.take len).map fun z => z.toNat.toUInt8).length = len := by simp; omega
    refine ⟨some a, cap, (zs.take len).map fun z => z.toNat.toUInt8, by rw [hlen, hcs], ⟨by rw [hlen]; exact hl, (fun h => by cases h), fun ad ha i c hi => ?_⟩, by omega⟩
    cases ha
    rw [List.getElem?_map, List.getElem?_take] at hi
    split at hi
    · rename_i hil
      have hi' : i < zs.length := by omega
      rw [List.getElem?_eq_getElem hi'] at hi
      cases hi
      rw [hcell i hi']
      have hb := bounds_u8 (hwz zs[i] (List.getElem_mem hi'))
      have hd : zs.getD i 0 = zs[i] := by simp [List.getD, hi']
      rw [hd, byte_toNat (by omega)]
      congr 2
      omega
    · cases hi
def FitD (d : De) : Prop := (-9223372036854775808 ≤ d.t ∧ d.t ≤ 9223372036854775807) ∧ (-9223372036854775808 ≤ d.n ∧ d.n ≤ 9223372036854775807) ∧ (-9223372036854775808 ≤ d.z ∧ d.z ≤ 9223372036854775807) ∧ d.b.length ≤ maxLen
set_option maxRecDepth 100000 in
theorem open_deed {fuel : Nat} {cs : List Value} {x : DataW H × List MemPlace} (h : DataW.trod enc Try.prog W 0 (fun _ => true) true fuel 36 cs = some x) :
    ∃ (d : De) (B : Option Addr) (c : Nat), cs = deOf d B c ∧ RdS W B c d.b ∧ FitD d := by
  obtain ⟨xs, n, _, _, hlen, hxs, hg⟩ := DataW.trod_struct Try.underlying36 h
  rw [cells_de] at hlen
  match cs, hlen with
  | [a0, a1, a2, a3], _ =>
    match xs, hxs with
    | [y0, y1, y2, y3], _ =>
      have g0 : DataW.trod enc Try.prog W 0 (fun _ => true) true n 3 (List.take (Try.prog.cellsOf 3) (List.drop 0 [a0, a1, a2, a3])) = some y0 := hg 0 _ rfl
      rw [cells_int] at g0
      have g1 : DataW.trod enc Try.prog W 0 (fun _ => true) true n 3 (List.take (Try.prog.cellsOf 3) (List.drop 1 [a0, a1, a2, a3])) = some y1 := hg 1 _ rfl
      rw [cells_int] at g1
      have g2 : DataW.trod enc Try.prog W 0 (fun _ => true) true n 3 (List.take (Try.prog.cellsOf 3) (List.drop 2 [a0, a1, a2, a3])) = some y2 := hg 2 _ rfl
      rw [cells_int] at g2
      have g3 : DataW.trod enc Try.prog W 0 (fun _ => true) true n 34 (List.take (Try.prog.cellsOf 34) (List.drop 3 [a0, a1, a2, a3])) = some y3 := hg 3 _ rfl
      rw [cells_bs] at g3
      simp only [List.drop_zero, List.drop_succ_cons, List.take_succ_cons, List.take_zero] at g0 g1 g2 g3
      obtain ⟨k0, e0, _, w0⟩ := DataW.trod_int Try.underlying3 g0
      obtain ⟨k1, e1, _, w1⟩ := DataW.trod_int Try.underlying3 g1
      obtain ⟨k2, e2, _, w2⟩ := DataW.trod_int Try.underlying3 g2
      obtain ⟨B, c, l, e3, rd, hl⟩ := open_bs g3
      simp at e0 e1 e2 e3
      subst e0 e1 e2 e3
      exact ⟨⟨k0, k1, k2, l⟩, B, c, rfl, rd, bounds_i64 w0, bounds_i64 w1, bounds_i64 w2, hl⟩
theorem open_deeds {v : Value} {x : DataW H} {ps : List MemPlace} {r : Reach} {b0 : Nat}
    (hval : Value.okWide Try.prog W r b0 22 v) (hd : DataW.Trod enc Try.prog W 0 (fun _ => true) true 22 v x ps) :
    ∃ (A : Option Addr) (c : Nat) (l : List De), v = .slice A l.length c ∧ RdDe W A l ∧ l.length ≤ maxLen ∧ ∀ d ∈ l, FitD d := by
  obtain ⟨A0, len0, cap0, rfl⟩ := okWide_slice Try.underlying22 hval
  obtain ⟨fuel, h⟩ := hd
  rcases open_slice Try.underlying22 h with ⟨hcs, _⟩ | ⟨a, len, cap, m, n, D, Pl, hcs, _, hl, hm, hmm, _, hx⟩
  · simp [Value.cells] at hcs
    obtain ⟨rfl, rfl, rfl⟩ := hcs
    exact ⟨none, 0, [], rfl, .inl rfl, by simp, fun d h => by simp at h⟩
  · simp [Value.cells] at hcs
    obtain ⟨rfl, rfl, rfl⟩ := hcs
    simp only [if_true] at hmm
    subst hmm
    have each : ∀ i, i < len0 → ∃ q : De × Option Addr × Nat, (∀ j, j < 4 → W.cell? (a.add (i * 4 + j)) = (deOf q.1 q.2.1 q.2.2)[j]?) ∧ RdS W q.2.1 q.2.2 q.1.b ∧ FitD q.1 := by
      intro i hi
      obtain ⟨cs', h1, h2⟩ := hx i (by omega)
      rw [cells_de] at h1
      obtain ⟨_, hlen, hcell⟩ := World.cells?_some h1
      obtain ⟨d, B, c, rfl, rd, hf⟩ := open_deed h2
      exact ⟨(d, B, c), fun j hj => by have := hcell j hj; rwa [Go.Deep.add_add] at this, rd, hf⟩
    obtain ⟨f, hf⟩ : ∃ f : Nat → De × Option Addr × Nat, ∀ i, i < len0 → (∀ j, j < 4 → W.cell? (a.add (i * 4 + j)) = (deOf (f i).1 (f i).2.1 (f i).2.2)[j]?) ∧ RdS W (f i).2.1 (f i).2.2 (f i).1.b ∧ FitD (f i).1 :=
      ⟨fun i => if h : i < len0 then Classical.choose (each i h) else (⟨0, 0, 0, []⟩, none, 0), fun i hi => by simp only [dif_pos hi]; exact Classical.choose_spec (each i hi)⟩
    have hlen : ((List.range len0).map fun i => (f i).1).length = len0 := by simp
    refine ⟨some a, _, (List.range len0).map fun i => (f i).1, by rw [hlen], ?_, by omega, ?_⟩
    · by_cases h0 : len0 = 0
      · subst h0; exact .inl rfl
      · obtain ⟨b, o, spot⟩ := a
        have hsp : spot = none := by
          have h8 : W.cell? ((⟨b, o, spot⟩ : Addr).add (0 * 4 + 0)) = some (.int .i64 (f 0).1.t) := (hf 0 (by omega)).1 0 (by omega)
          have := World.cell?_spot h8
          simpa [Addr.add] using this
        subst hsp
        refine .inr ⟨b, o, rfl, fun i d hi => ?_⟩
        rw [List.getElem?_map] at hi
        by_cases hil : i < len0
        · rw [List.getElem?_range hil] at hi
          obtain rfl := Option.some.inj hi
          obtain ⟨hc, rd, _⟩ := hf i hil
          have hk : ∀ j, j < 4 → W.cell? ⟨b, o + i * 4 + j, none⟩ = (deOf (f i).1 (f i).2.1 (f i).2.2)[j]? := fun j hj => by
            have := hc j hj
            rw [Go.WideShapes.add_plain] at this
            rw [Nat.add_assoc]
            exact this
          exact ⟨(f i).2.1, (f i).2.2, hk 0 (by omega), hk 1 (by omega), hk 2 (by omega), hk 3 (by omega), rd⟩
        · rw [List.getElem?_eq_none (by simp; omega)] at hi
          cases hi
    · intro d hd
      obtain ⟨i, hi, rfl⟩ := List.mem_map.1 hd
      exact (hf i (by simpa using hi)).2.2
end
end Go.Proofs.Ytodleafebjkdmaa
