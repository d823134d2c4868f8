/-
  Rows of one's own, of elements of one cell: they grow by what lies elsewhere, or was just laid.
-/
import Derived.Test.YtidpldnkpacobaaKeeps
import Derived.Test.YtidpldnkpacobaaOwnB
import Derived.Maps.AppendAt
namespace Go.Proofs.Ytidpldnkpacobaa
open Go.ChangeShapes Go.WideShapes Go.ChangeAt Go.RowKit
set_option linter.unusedVariables false

theorem infoI : (Try.prog.info? 3).map (fun i => (i.zero, i.size, i.bytes)) = some (some (.int .i64 0), 1, 8) := by kernel_rfl
theorem infoS : (Try.prog.info? 9).map (fun i => (i.zero, i.size, i.bytes)) = some (some (.string ⟨#[]⟩), 1, 16) := by kernel_rfl
section
variable {w w' : World} {B B' : Nat} {e e' : TypeId} {v v' : Value} {n n' : Nat} {l l' : List Value}
theorem owns_block (h : w.ownsRow B e 1 v n l) {g : Nat} (hg : v.ownBlock = some g) : B ≤ g ∧ g < w.heap.size ∧ ∃ c, w.heap[g]? = some (.cells c e (0, 0)) := by
  rcases h.2 with ⟨rfl, _⟩ | ⟨g', cap, cur, rfl, hb, hc, _⟩
  · cases hg
  · simp only [Value.ownBlock, Option.some.injEq] at hg
    subst hg
    exact ⟨hb, lt_of_block hc, _, hc⟩
theorem owns_ne (h : w.ownsRow B e 1 v n l) (h' : w.ownsRow B' e' 1 v' n' l') (he : e ≠ e') {g : Nat} (hg : v.ownBlock = some g) : v'.ownBlock ≠ some g := fun hg' => by
  obtain ⟨_, _, c, hc⟩ := owns_block h hg
  obtain ⟨_, _, d, hd⟩ := owns_block h' hg'
  rw [hc] at hd
  cases hd
  exact he rfl
theorem owns_off (h : w.ownsRow B e 1 v n l) {a : Nat} {c : Array Value} {t : TypeId} {f : Nat × Nat} (hb : w.heap[a]? = some (.cells c t f)) (he : t ≠ e) : v.ownBlock ≠ some a := fun hg => by
  obtain ⟨_, _, d, hd⟩ := owns_block h hg
  rw [hb] at hd
  cases hd
  exact he rfl
theorem owns_view (h : w.ownsRow B e 1 v n l) : ∃ A cap, v = .slice A n cap ∧ (A = none → cap = 0 ∧ l = []) ∧ (∀ ad, A = some ad → ad = ⟨ad.block, 0, none⟩ ∧ ∀ j u, l[j]? = some u → w.cell? (ad.add j) = some u) := by
  rcases h.2 with ⟨rfl, hn⟩ | ⟨g, cap, cur, rfl, _⟩
  · subst hn
    exact ⟨none, 0, rfl, fun _ => ⟨rfl, List.length_eq_zero_iff.1 (by have := h.1; omega)⟩, fun ad ha => by cases ha⟩
  · refine ⟨some ⟨g, 0, none⟩, cap, rfl, (fun ha => by cases ha), fun ad ha => ?_⟩
    cases ha
    exact ⟨rfl, fun j u hu => World.ownsRow.cells h (g := g) rfl j u hu⟩
/-- A row of one's own grows by what lies elsewhere. -/
theorem row_grow {ty : TypeId} {z : Value} {bytes : Nat} (hu : Try.prog.underlying ty = some (.slice e)) (hinfo : (Try.prog.info? e).map (fun i => (i.zero, i.size, i.bytes)) = some (some z, 1, bytes)) (hz : z.cells.size = 1)
    (h : w.ownsRow B e 1 v n l) {A : Option Addr} {m cap : Nat} {news : List Value} (hm : news.length = m) (hn : A = none → cap = 0 ∧ news = []) (hr : ∀ ad, A = some ad → ∀ j u, news[j]? = some u → w.cell? (ad.add j) = some u)
    (h1 : ∀ u ∈ news, u.oneCell' = true) (hl : n + m ≤ 1000000) (hb : bytes ≤ 16) (hB : B ≤ w.heap.size) :
    ∃ v' w', (Builtin.append_ #[ty, ty] ty #[v, .slice A m cap]).run Try.prog w = .ok v' w' ∧ w'.ownsRow B e 1 v' (n + m) (l ++ news) ∧ w.grownBy w' v.ownBlock ∧ (v'.ownBlock = v.ownBlock ∨ v'.ownBlock = some w.heap.size) := by
  obtain ⟨i, hi, hz0, hz1, hz2⟩ := info_parts hinfo
  cases A with
  | none =>
    obtain ⟨rfl, rfl⟩ := hn rfl
    obtain rfl : m = 0 := by simpa using hm.symm
    exact ⟨v, w, run_append_owned_none (P := Try.prog) (w := w) B ty ty e i 1 hu hi _ _ _ h, by simpa using h, grown_refl _ _, .inl rfl⟩
  | some ad =>
    obtain ⟨v', w', hrun, hown, hgr, _, hat⟩ := run_append_own_at (P := Try.prog) w B ty ty e i z 1 bytes hu hi hz0 hz1 hz2 hz (by omega) _ _ _ h ad m cap news (by omega) (hr ad rfl) h1 (by unfold maxLen; omega)
      (by have : (n + m) * bytes ≤ 1000000 * 16 := Nat.mul_le_mul hl hb
          omega) hB
    exact ⟨v', w', hrun, hown, hgr, hat⟩
end
theorem one_cell {w : World} {u x : Value} {e : TypeId} {j : Nat} (hu : [x][j]? = some u) : (w.alloc (.cells #[x] e)).cell? ((⟨w.heap.size, 0, none⟩ : Addr).add j) = some u := by
  rw [Addr.add_lit, Nat.zero_add, cell_of_block (heap_alloc_new w _)]
  simpa using hu
end Go.Proofs.Ytidpldnkpacobaa
