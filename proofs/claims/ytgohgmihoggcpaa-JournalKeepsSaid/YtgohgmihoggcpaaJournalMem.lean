/-
  Layer 9 (journal): texts in a row of one's own; a journal in memory: its own block, the row of its parts' numbers, the row of its records, beside a disk.
-/
import Derived.Test.YtgohgmihoggcpaaJournalPure
import Derived.Test.YtgohgmihoggcpaaWireText
namespace Go.Proofs.Ytgohgmihoggcpaa
open Go.ChangeShapes Go.WideShapes Go.ChangeAt Go.RowKit
set_option linter.unusedVariables false

theorem infoI : (Try.prog.info? 3).map (fun i => (i.zero, i.size, i.bytes)) = some (some (.int .i64 0), 1, 8) := by kernel_rfl
theorem infoS : (Try.prog.info? 9).map (fun i => (i.zero, i.size, i.bytes)) = some (some (.string ⟨#[]⟩), 1, 16) := by kernel_rfl
def encS (r : Rc) : Value := .string ⟨r.toArray⟩
/-- Texts in a row of one's own. -/
def OS (w : World) (B : Nat) (v : Value) (l : List Rc) : Prop := w.ownsRow B 9 1 v l.length (l.map encS)
section
variable {w w' : World} {B B' : Nat} {e e' : TypeId} {v v' : Value} {n n' : Nat} {l l' : List Value}
theorem owns_block (h : w.ownsRow B e 1 v n l) {g : Nat} (hg : v.ownBlock = some g) : B ≤ g ∧ g < w.heap.size ∧ ∃ c, w.heap[g]? = some (.cells c e (0, 0)) := by
  rcases h.2 with ⟨rfl, _⟩ | ⟨g', cap, cur, rfl, hb, hc, _⟩
  · cases hg
  · simp only [Value.ownBlock, Option.some.injEq] at hg
    subst hg
    exact ⟨hb, lt_of_block hc, _, hc⟩
theorem owns_ne (h : w.ownsRow B e 1 v n l) (h' : w.ownsRow B' e' 1 v' n' l') (he : e ≠ e') {g : Nat} (hg : v.ownBlock = some g) : v'.ownBlock ≠ some g := fun hg' => by
  obtain ⟨_, _, c, hc⟩ := owns_block h hg
  obtain ⟨_, _, d, hd⟩ := owns_block h' hg'
  rw [hc] at hd
  cases hd
  exact he rfl
theorem owns_off (h : w.ownsRow B e 1 v n l) {a : Nat} {c : Array Value} {t : TypeId} {f : Nat × Nat} (hb : w.heap[a]? = some (.cells c t f)) (he : t ≠ e) : v.ownBlock ≠ some a := fun hg => by
  obtain ⟨_, _, d, hd⟩ := owns_block h hg
  rw [hb] at hd
  cases hd
  exact he rfl
theorem owns_view (h : w.ownsRow B e 1 v n l) : ∃ A cap, v = .slice A n cap ∧ (A = none → cap = 0 ∧ l = []) ∧ (∀ ad, A = some ad → ad = ⟨ad.block, 0, none⟩ ∧ ∀ j u, l[j]? = some u → w.cell? (ad.add j) = some u) := by
  rcases h.2 with ⟨rfl, hn⟩ | ⟨g, cap, cur, rfl, _⟩
  · subst hn
    exact ⟨none, 0, rfl, fun _ => ⟨rfl, List.length_eq_zero_iff.1 (by have := h.1; omega)⟩, fun ad ha => by cases ha⟩
  · refine ⟨some ⟨g, 0, none⟩, cap, rfl, (fun ha => by cases ha), fun ad ha => ?_⟩
    cases ha
    exact ⟨rfl, fun j u hu => World.ownsRow.cells h (g := g) rfl j u hu⟩
/-- A row of one's own grows by what lies elsewhere. -/
theorem row_grow {ty : TypeId} {z : Value} {bytes : Nat} (hu : Try.prog.underlying ty = some (.slice e)) (hinfo : (Try.prog.info? e).map (fun i => (i.zero, i.size, i.bytes)) = some (some z, 1, bytes)) (hz : z.cells.size = 1)
    (h : w.ownsRow B e 1 v n l) {A : Option Addr} {m cap : Nat} {news : List Value} (hm : news.length = m) (hn : A = none → cap = 0 ∧ news = []) (hr : ∀ ad, A = some ad → ∀ j u, news[j]? = some u → w.cell? (ad.add j) = some u)
    (h1 : ∀ u ∈ news, u.oneCell' = true) (hl : n + m ≤ 1000000) (hb : bytes ≤ 16) (hB : B ≤ w.heap.size) :
    ∃ v' w', (Builtin.append_ #[ty, ty] ty #[v, .slice A m cap]).run Try.prog w = .ok v' w' ∧ w'.ownsRow B e 1 v' (n + m) (l ++ news) ∧ w.grownBy w' v.ownBlock ∧ (v'.ownBlock = v.ownBlock ∨ v'.ownBlock = some w.heap.size) := by
  obtain ⟨i, hi, hz0, hz1, hz2⟩ := info_parts hinfo
  cases A with
  | none =>
    obtain ⟨rfl, rfl⟩ := hn rfl
    obtain rfl : m = 0 := by simpa using hm.symm
    exact ⟨v, w, run_append_owned_none (P := Try.prog) (w := w) B ty ty e i 1 hu hi _ _ _ h, by simpa using h, grown_refl _ _, .inl rfl⟩
  | some ad =>
    obtain ⟨v', w', hrun, hown, hgr, _, hat⟩ := run_append_own_at (P := Try.prog) w B ty ty e i z 1 bytes hu hi hz0 hz1 hz2 hz (by omega) _ _ _ h ad m cap news (by omega) (hr ad rfl) h1 (by unfold maxLen; omega)
      (by have : (n + m) * bytes ≤ 1000000 * 16 := Nat.mul_le_mul hl hb
          omega) hB
    exact ⟨v', w', hrun, hown, hgr, hat⟩
end
theorem one_cell {w : World} {u x : Value} {e : TypeId} {j : Nat} (hu : [x][j]? = some u) : (w.alloc (.cells #[x] e)).cell? ((⟨w.heap.size, 0, none⟩ : Addr).add j) = some u := by
  rw [Addr.add_lit, Nat.zero_add, cell_of_block (heap_alloc_new w _)]
  simpa using hu
theorem add_int {w : World} {B : Nat} {v : Value} {l : List Int} (h : OI w B v l) (x : Int) (hl : l.length ≤ 100000) (hB : B ≤ w.heap.size) :
    ∃ v' w', (Builtin.append_ #[44, 44] 44 #[v, .slice (some ⟨w.heap.size, 0, none⟩) 1 1]).run Try.prog (w.alloc (.cells #[.int .i64 x] 3)) = .ok v' w' ∧ OI w' B v' (l ++ [x]) ∧ (w.alloc (.cells #[.int .i64 x] 3)).grownBy w' v.ownBlock ∧ (v'.ownBlock = v.ownBlock ∨ v'.ownBlock = some (w.heap.size + 1)) := by
  obtain ⟨v', w', h1, h2, h3, h4⟩ := row_grow (w := w.alloc (.cells #[.int .i64 x] 3)) (ty := 44) Try.underlying44 infoI rfl (World.ownsRow.alloc h _) (A := some ⟨w.heap.size, 0, none⟩) (m := 1) (cap := 1) (news := [.int .i64 x]) rfl (fun e => by cases e) (fun ad ha j u hu => by cases ha; exact one_cell hu) (fun u hu => by simp only [List.mem_singleton] at hu; subst hu; rfl) (by omega) (by omega) (by simp; omega)
  exact ⟨v', w', h1, by unfold OI; rw [List.map_append, List.length_append]; exact h2, h3, by simpa using h4⟩
theorem add_str {w : World} {B : Nat} {v : Value} {l : List Rc} (h : OS w B v l) (x : Rc) (hl : l.length ≤ 100000) (hB : B ≤ w.heap.size) :
    ∃ v' w', (Builtin.append_ #[45, 45] 45 #[v, .slice (some ⟨w.heap.size, 0, none⟩) 1 1]).run Try.prog (w.alloc (.cells #[encS x] 9)) = .ok v' w' ∧ OS w' B v' (l ++ [x]) ∧ (w.alloc (.cells #[encS x] 9)).grownBy w' v.ownBlock ∧ (v'.ownBlock = v.ownBlock ∨ v'.ownBlock = some (w.heap.size + 1)) := by
  obtain ⟨v', w', h1, h2, h3, h4⟩ := row_grow (w := w.alloc (.cells #[encS x] 9)) (ty := 45) Try.underlying45 infoS rfl (World.ownsRow.alloc h _) (A := some ⟨w.heap.size, 0, none⟩) (m := 1) (cap := 1) (news := [encS x]) rfl (fun e => by cases e) (fun ad ha j u hu => by cases ha; exact one_cell hu) (fun u hu => by simp only [List.mem_singleton] at hu; subst hu; rfl) (by omega) (by omega) (by simp; omega)
  exact ⟨v', w', h1, by unfold OS; rw [List.map_append, List.length_append]; exact h2, h3, by simpa using h4⟩
theorem os_shape {w : World} {B : Nat} {v : Value} {l : List Rc} (h : OS w B v l) : ∃ A cap, v = .slice A l.length cap ∧ (A = none → cap = 0 ∧ l = []) ∧ (∀ ad, A = some ad → ad = ⟨ad.block, 0, none⟩ ∧ ∀ j r, l[j]? = some r → w.cell? (ad.add j) = some (encS r)) := by
  obtain ⟨A, cap, e, h1, h2⟩ := owns_view h
  exact ⟨A, cap, e, fun ha => ⟨(h1 ha).1, by simpa using (h1 ha).2⟩, fun ad ha => ⟨(h2 ad ha).1, fun j r hr => (h2 ad ha).2 j _ (by rw [List.getElem?_map, hr]; rfl)⟩⟩
/-- Texts that lie in a row of their own appended to another such row. -/
theorem add_strs {w : World} {B B' : Nat} {v y : Value} {l x : List Rc} (h : OS w B v l) (hy : OS w B' y x) (hl : l.length + x.length ≤ 1000000) (hB : B ≤ w.heap.size) :
    ∃ v' w', (Builtin.append_ #[45, 45] 45 #[v, y]).run Try.prog w = .ok v' w' ∧ OS w' B v' (l ++ x) ∧ w.grownBy w' v.ownBlock := by
  obtain ⟨A, cap, rfl, h1, h2⟩ := owns_view hy
  obtain ⟨v', w', g1, g2, g3, _⟩ := row_grow (ty := 45) Try.underlying45 infoS rfl h (A := A) (m := x.length) (cap := cap) (news := x.map encS) (by simp) h1 (fun ad ha => (h2 ad ha).2) (fun u hu => by obtain ⟨r, _, rfl⟩ := List.mem_map.1 hu; rfl) hl (by omega) hB
  exact ⟨v', w', g1, by unfold OS; rw [List.map_append, List.length_append]; exact g2, g3⟩

/-! ### a journal -/
def jrCells (ad : Nat) (many : Int) (vp vr : Value) : Array Value := #[.pointer (some ⟨ad, 0, none⟩), .int .i64 many, vp, vr]
/-- A journal behind a pointer at block aj: its disk, how many a part has, the rows of its parts' numbers and of its records. -/
structure JrG (w : World) (B ad aj : Nat) (many : Int) (vp vr : Value) (P : List Int) (R : List Rc) : Prop where
  blk : w.heap[aj]? = some (.cells (jrCells ad many vp vr) 47 (0, 0))
  lo : B ≤ aj
  pk : OI w B vp P
  rk : OS w B vr R
/-- The blocks that are its own. -/
def jfoot (aj : Nat) (vp vr : Value) (g : Nat) : Prop := g = aj ∨ vp.ownBlock = some g ∨ vr.ownBlock = some g
theorem keeps_out {F : Nat → Prop} {w w' : World} (k : Keeps F w w') {g : Nat} {o : Obj} (h : w.heap[g]? = some o) (hF : ¬ F g) : w'.heap[g]? = some o := by rw [k.block g (lt_of_block h) hF]; exact h
section
variable {w w' : World} {B ad aj : Nat} {many : Int} {vp vr : Value} {P : List Int} {R : List Rc}
theorem JrG.c0 (h : JrG w B ad aj many vp vr P R) : w.cell? ⟨aj, 0, none⟩ = some (.pointer (some ⟨ad, 0, none⟩)) := cell_of_block h.blk
theorem JrG.c1 (h : JrG w B ad aj many vp vr P R) : w.cell? ⟨aj, 1, none⟩ = some (.int .i64 many) := cell_of_block h.blk
theorem JrG.c2 (h : JrG w B ad aj many vp vr P R) : w.cell? ⟨aj, 2, none⟩ = some vp := cell_of_block h.blk
theorem JrG.c3 (h : JrG w B ad aj many vp vr P R) : w.cell? ⟨aj, 3, none⟩ = some vr := cell_of_block h.blk
theorem JrG.f (h : JrG w B ad aj many vp vr P R) (o : Nat) : w.frozen? ⟨aj, o, none⟩ = false := frozen_of_block h.blk
theorem JrG.lt (h : JrG w B ad aj many vp vr P R) : aj < w.heap.size := lt_of_block h.blk
theorem JrG.footlt (h : JrG w B ad aj many vp vr P R) {g : Nat} (hg : jfoot aj vp vr g) : g < w.heap.size := by
  rcases hg with rfl | e | e
  · exact h.lt
  · exact (owns_block h.pk e).2.1
  · exact (owns_block h.rk e).2.1
theorem JrG.footlo (h : JrG w B ad aj many vp vr P R) {g : Nat} (hg : jfoot aj vp vr g) : B ≤ g := by
  rcases hg with rfl | e | e
  · exact h.lo
  · exact (owns_block h.pk e).1
  · exact (owns_block h.rk e).1
theorem JrG.keeps {F : Nat → Prop} (h : JrG w B ad aj many vp vr P R) (k : Keeps F w w') (hF : ∀ g, jfoot aj vp vr g → ¬ F g) : JrG w' B ad aj many vp vr P R where
  blk := keeps_out k h.blk (hF aj (.inl rfl))
  lo := h.lo
  pk := owns_keeps h.pk k (fun g hg => hF g (.inr (.inl hg)))
  rk := owns_keeps h.rk k (fun g hg => hF g (.inr (.inr hg)))
theorem JrG.still (h : JrG w B ad aj many vp vr P R) (hb : Below w.heap.size w w') : JrG w' B ad aj many vp vr P R :=
  h.keeps (Keeps.of_below hb (Nat.le_refl _) (fun _ => False)) (fun _ _ e => e)
/-- A disk's blocks are of other kinds. -/
theorem JrG.apart {F : Nat → Prop} {a rm : Nat} {dn : Bool} {L : List Pt} (h : JrG w B ad aj many vp vr P R) (d : Dsk w F a rm dn L) {g : Nat} (hF : F g) : ¬ jfoot aj vp vr g := by
  obtain ⟨b, xs, hd, _, hf⟩ := d
  have key : ∀ {c : Array Value} {t : TypeId} {f : Nat × Nat}, w.heap[g]? = some (.cells c t f) → t = 43 ∨ t = 5 := by
    intro c t f hc
    rcases (hf g).1 hF with rfl | rfl | ⟨x, hx, e⟩
    · have := hd.blk; rw [hc] at this; cases this; exact .inl rfl
    · obtain ⟨es, cl, hb, _⟩ := hd.map; rw [hc] at hb; cases hb
    · obtain ⟨c', fz, hc'⟩ := (hd.own x hx).kind g e; rw [hc] at hc'; cases hc'; exact .inr rfl
  rintro (rfl | e | e)
  · rcases key h.blk with e | e <;> exact absurd e (by decide)
  · obtain ⟨_, _, c, hc⟩ := owns_block h.pk e
    rcases key hc with e | e <;> exact absurd e (by decide)
  · obtain ⟨_, _, c, hc⟩ := owns_block h.rk e
    rcases key hc with e | e <;> exact absurd e (by decide)
theorem JrG.setP (h : JrG w B ad aj many vp vr P R) {v' : Value} {P' : List Int} (hv : OI w B v' P') : JrG (w.setCell ⟨aj, 2, none⟩ v') B ad aj many v' vr P' R where
  blk := by rw [heap_set_same h.blk]; rfl
  lo := h.lo
  pk := owns_keeps (F := fun g => g = aj) hv ((Keeps.refl _ w).set _ _ (.inl rfl)) (fun g hg e => owns_off hv h.blk (by decide) (by rw [← e]; exact hg))
  rk := owns_keeps (F := fun g => g = aj) h.rk ((Keeps.refl _ w).set _ _ (.inl rfl)) (fun g hg e => owns_off h.rk h.blk (by decide) (by rw [← e]; exact hg))
theorem JrG.setR (h : JrG w B ad aj many vp vr P R) {v' : Value} {R' : List Rc} (hv : OS w B v' R') : JrG (w.setCell ⟨aj, 3, none⟩ v') B ad aj many vp v' P R' where
  blk := by rw [heap_set_same h.blk]; rfl
  lo := h.lo
  pk := owns_keeps (F := fun g => g = aj) h.pk ((Keeps.refl _ w).set _ _ (.inl rfl)) (fun g hg e => owns_off h.pk h.blk (by decide) (by rw [← e]; exact hg))
  rk := owns_keeps (F := fun g => g = aj) hv ((Keeps.refl _ w).set _ _ (.inl rfl)) (fun g hg e => owns_off hv h.blk (by decide) (by rw [← e]; exact hg))
/-- Its parts' row has grown (an append ran), and is not stored yet. -/
theorem JrG.grownP (h : JrG w B ad aj many vp vr P R) {w0 : World} {v' : Value} {P' : List Int} (hb : Below w.heap.size w w0) (hg : w0.grownBy w' vp.ownBlock) (hv : OI w' B v' P') :
    Keeps (jfoot aj vp vr) w (w'.setCell ⟨aj, 2, none⟩ v') ∧ w'.cell? ⟨aj, 2, none⟩ = some vp ∧ w'.cell? ⟨aj, 0, none⟩ = some (.pointer (some ⟨ad, 0, none⟩)) ∧ w'.cell? ⟨aj, 3, none⟩ = some vr ∧ w'.frozen? ⟨aj, 2, none⟩ = false ∧ JrG (w'.setCell ⟨aj, 2, none⟩ v') B ad aj many v' vr P' R := by
  have k1 : Keeps (fun g => vp.ownBlock = some g) w w' := (Keeps.of_below hb (Nat.le_refl _) _).trans (Keeps.of_grown (F := fun g => vp.ownBlock = some g) hg (fun g e => e)) (fun g e => .inl e)
  have b1 := keeps_out k1 h.blk (owns_off h.pk h.blk (by decide))
  have r1 : OS w' B vr R := owns_keeps h.rk k1 (fun g hg => owns_ne h.rk h.pk (by decide) hg)
  refine ⟨(k1.wide (fun g e _ => .inr (.inl e))).set _ _ (.inl (.inl rfl)), cell_of_block b1, cell_of_block b1, cell_of_block b1, frozen_of_block b1, ?_⟩
  refine ⟨by rw [heap_set_same b1]; rfl, h.lo, ?_, ?_⟩
  · exact owns_keeps (F := fun g => g = aj) hv ((Keeps.refl _ w').set _ _ (.inl rfl)) (fun g hg e => owns_off hv b1 (by decide) (by rw [← e]; exact hg))
  · exact owns_keeps (F := fun g => g = aj) r1 ((Keeps.refl _ w').set _ _ (.inl rfl)) (fun g hg e => owns_off r1 b1 (by decide) (by rw [← e]; exact hg))
theorem JrG.grownR (h : JrG w B ad aj many vp vr P R) {w0 : World} {v' : Value} {R' : List Rc} (hb : Below w.heap.size w w0) (hg : w0.grownBy w' vr.ownBlock) (hv : OS w' B v' R') :
    Keeps (jfoot aj vp vr) w (w'.setCell ⟨aj, 3, none⟩ v') ∧ w'.cell? ⟨aj, 3, none⟩ = some vr ∧ w'.cell? ⟨aj, 0, none⟩ = some (.pointer (some ⟨ad, 0, none⟩)) ∧ w'.frozen? ⟨aj, 3, none⟩ = false ∧ JrG (w'.setCell ⟨aj, 3, none⟩ v') B ad aj many vp v' P R' := by
  have k1 : Keeps (fun g => vr.ownBlock = some g) w w' := (Keeps.of_below hb (Nat.le_refl _) _).trans (Keeps.of_grown (F := fun g => vr.ownBlock = some g) hg (fun g e => e)) (fun g e => .inl e)
  have b1 := keeps_out k1 h.blk (owns_off h.rk h.blk (by decide))
  have r1 : OI w' B vp P := owns_keeps h.pk k1 (fun g hg => owns_ne h.pk h.rk (by decide) hg)
  refine ⟨(k1.wide (fun g e _ => .inr (.inr e))).set _ _ (.inl (.inl rfl)), cell_of_block b1, cell_of_block b1, frozen_of_block b1, ?_⟩
  refine ⟨by rw [heap_set_same b1]; rfl, h.lo, ?_, ?_⟩
  · exact owns_keeps (F := fun g => g = aj) r1 ((Keeps.refl _ w').set _ _ (.inl rfl)) (fun g hg e => owns_off r1 b1 (by decide) (by rw [← e]; exact hg))
  · exact owns_keeps (F := fun g => g = aj) hv ((Keeps.refl _ w').set _ _ (.inl rfl)) (fun g hg e => owns_off hv b1 (by decide) (by rw [← e]; exact hg))
end
/-- The call's own disk and its own journal. -/
def Jn (W w : World) (ad aj rm : Nat) (dn : Bool) (L : List Pt) (many : Int) (P : List Int) (R : List Rc) : Prop :=
  Own8 W w ad rm dn L ∧ ∃ vp vr, JrG w W.heap.size ad aj many vp vr P R
section
variable {W w w' : World} {B ad aj rm : Nat} {dn : Bool} {L : List Pt} {many : Int} {P : List Int} {R : List Rc} {vp vr : Value}
theorem Jn.still (h : Jn W w ad aj rm dn L many P R) (hb : Below w.heap.size w w') : Jn W w' ad aj rm dn L many P R := by
  obtain ⟨o, vp, vr, g⟩ := h
  exact ⟨o.still hb, vp, vr, g.still hb⟩
theorem Jn.below (h : Jn W w ad aj rm dn L many P R) : Below W.heap.size W w := by
  obtain ⟨⟨F, _, _, hb⟩, _⟩ := h
  exact hb
theorem Own8.far (o : Own8 W w ad rm dn L) (g : JrG w W.heap.size ad aj many vp vr P R) (k : Keeps (jfoot aj vp vr) w w') : Own8 W w' ad rm dn L := by
  obtain ⟨F, h1, h2, h3⟩ := o
  exact ⟨F, h1.keeps k (fun x hx hj => g.apart h1 hx hj), h2, h3.trans (k.below (fun x hx => g.footlo hx) h3.size)⟩
/-- What a call on the disk makes of it, with the journal beside it. -/
theorem Jn.dsk (h : Jn W w ad aj rm dn L many P R) {f : FuncId} {args : Array Value} {E : Ending → Prop} {dn' : Bool} {L' : List Pt}
    (hc : ∀ F, Dsk w F ad rm dn L → Calls Try.prog f args w fun e w' => E e ∧ ∃ F', Dsk w' F' ad rm dn' L' ∧ Mv8 w F w' F') :
    Calls Try.prog f args w fun e w' => E e ∧ Jn W w' ad aj rm dn' L' many P R := by
  obtain ⟨⟨F, h1, h2, h3⟩, vp, vr, g⟩ := h
  refine (hc F h1).mono ?_
  rintro e w' ⟨he, F', d, m⟩
  exact ⟨he, Own8.step h2 h3 d m, vp, vr, g.keeps m.keeps (fun x hx hF => g.apart h1 hF hx)⟩
theorem addP (o : Own8 W w ad rm dn L) (g : JrG w W.heap.size ad aj many vp vr P R) (x : Int) (hl : P.length ≤ 100000) :
    ∃ A cap w', (Builtin.append_ #[44, 44] 44 #[vp, .slice (some ⟨w.heap.size, 0, none⟩) 1 1]).run Try.prog (w.alloc (.cells #[.int .i64 x] 3)) = .ok (.slice A (P.length + 1) cap) w' ∧
      w'.cell? ⟨aj, 2, none⟩ = some vp ∧ w'.cell? ⟨aj, 0, none⟩ = some (.pointer (some ⟨ad, 0, none⟩)) ∧ w'.cell? ⟨aj, 3, none⟩ = some vr ∧ w'.frozen? ⟨aj, 2, none⟩ = false ∧
      Own8 W (w'.setCell ⟨aj, 2, none⟩ (.slice A (P.length + 1) cap)) ad rm dn L ∧ JrG (w'.setCell ⟨aj, 2, none⟩ (.slice A (P.length + 1) cap)) W.heap.size ad aj many (.slice A (P.length + 1) cap) vr (P ++ [x]) R ∧
      Keeps (jfoot aj vp vr) w (w'.setCell ⟨aj, 2, none⟩ (.slice A (P.length + 1) cap)) ∧ (∀ g, (Value.slice A (P.length + 1) cap).ownBlock = some g → vp.ownBlock = some g ∨ w.heap.size ≤ g) := by
  have hB : W.heap.size ≤ w.heap.size := by obtain ⟨F, _, _, hb⟩ := o; exact hb.size
  obtain ⟨v', w', hrun, hown, hgr, hat⟩ := add_int g.pk x hl hB
  obtain ⟨A, cap, e, _, _⟩ := owns_view hown
  rw [List.length_append, List.length_singleton] at e
  subst e
  obtain ⟨k, q1, q2, q3, q4, q5⟩ := g.grownP ((Below.refl w.heap.size w).alloc (Nat.le_refl _) _) hgr hown
  exact ⟨A, cap, w', hrun, q1, q2, q3, q4, o.far g k, q5, k, fun x hx => by
    rcases hat with e | e
    · exact .inl (by rw [← e]; exact hx)
    · rw [e] at hx; cases hx; exact .inr (by omega)⟩
theorem addR (o : Own8 W w ad rm dn L) (g : JrG w W.heap.size ad aj many vp vr P R) (x : Rc) (hl : R.length ≤ 100000) :
    ∃ A cap w', (Builtin.append_ #[45, 45] 45 #[vr, .slice (some ⟨w.heap.size, 0, none⟩) 1 1]).run Try.prog (w.alloc (.cells #[.string ⟨x.toArray⟩] 9)) = .ok (.slice A (R.length + 1) cap) w' ∧
      w'.cell? ⟨aj, 3, none⟩ = some vr ∧ w'.cell? ⟨aj, 0, none⟩ = some (.pointer (some ⟨ad, 0, none⟩)) ∧ w'.frozen? ⟨aj, 3, none⟩ = false ∧
      Own8 W (w'.setCell ⟨aj, 3, none⟩ (.slice A (R.length + 1) cap)) ad rm dn L ∧ JrG (w'.setCell ⟨aj, 3, none⟩ (.slice A (R.length + 1) cap)) W.heap.size ad aj many vp (.slice A (R.length + 1) cap) P (R ++ [x]) := by
  have hB : W.heap.size ≤ w.heap.size := by obtain ⟨F, _, _, hb⟩ := o; exact hb.size
  obtain ⟨v', w', hrun, hown, hgr, _⟩ := add_str g.rk x hl hB
  obtain ⟨A, cap, e, _, _⟩ := owns_view hown
  rw [List.length_append, List.length_singleton] at e
  subst e
  obtain ⟨k, q1, q2, q4, q5⟩ := g.grownR ((Below.refl w.heap.size w).alloc (Nat.le_refl _) _) hgr hown
  exact ⟨A, cap, w', hrun, q1, q2, q4, o.far g k, q5⟩
theorem addRs (o : Own8 W w ad rm dn L) (g : JrG w W.heap.size ad aj many vp vr P R) {y : Value} {B' : Nat} {x : List Rc} (hy : OS w B' y x) (hl : R.length + x.length ≤ 1000000) :
    ∃ A cap w', (Builtin.append_ #[45, 45] 45 #[vr, y]).run Try.prog w = .ok (.slice A (R.length + x.length) cap) w' ∧
      w'.cell? ⟨aj, 3, none⟩ = some vr ∧ w'.cell? ⟨aj, 0, none⟩ = some (.pointer (some ⟨ad, 0, none⟩)) ∧ w'.frozen? ⟨aj, 3, none⟩ = false ∧
      Own8 W (w'.setCell ⟨aj, 3, none⟩ (.slice A (R.length + x.length) cap)) ad rm dn L ∧ JrG (w'.setCell ⟨aj, 3, none⟩ (.slice A (R.length + x.length) cap)) W.heap.size ad aj many vp (.slice A (R.length + x.length) cap) P (R ++ x) ∧
      Keeps (jfoot aj vp vr) w (w'.setCell ⟨aj, 3, none⟩ (.slice A (R.length + x.length) cap)) := by
  have hB : W.heap.size ≤ w.heap.size := by obtain ⟨F, _, _, hb⟩ := o; exact hb.size
  obtain ⟨v', w', hrun, hown, hgr⟩ := add_strs g.rk hy hl hB
  obtain ⟨A, cap, e, _, _⟩ := owns_view hown
  rw [List.length_append] at e
  subst e
  obtain ⟨k, q1, q2, q4, q5⟩ := g.grownR (Below.refl w.heap.size w) hgr hown
  exact ⟨A, cap, w', hrun, q1, q2, q4, o.far g k, q5, k⟩
/-- .. and a row of whole numbers beside it, that stays. -/
def Jy (W w : World) (ad aj rm : Nat) (dn : Bool) (L : List Pt) (many : Int) (P : List Int) (R : List Rc) (y : Value) (ps : List Int) : Prop :=
  Own8 W w ad rm dn L ∧ ∃ vp vr, JrG w W.heap.size ad aj many vp vr P R ∧ OI w 0 y ps ∧ ∀ g, y.ownBlock = some g → vp.ownBlock ≠ some g
variable {y : Value} {ps : List Int}
theorem Jy.jn (h : Jy W w ad aj rm dn L many P R y ps) : Jn W w ad aj rm dn L many P R := by
  obtain ⟨o, vp, vr, g, _⟩ := h
  exact ⟨o, vp, vr, g⟩
theorem oi_keeps (hy : OI w 0 y ps) (g : JrG w B ad aj many vp vr P R) (hd : ∀ x, y.ownBlock = some x → vp.ownBlock ≠ some x) (k : Keeps (jfoot aj vp vr) w w') : OI w' 0 y ps :=
  owns_keeps hy k (fun x hx hf => by
    rcases hf with rfl | e | e
    · exact owns_off hy g.blk (by decide) hx
    · exact hd x hx e
    · exact owns_ne hy g.rk (by decide) hx e)
theorem oi_apart {F : Nat → Prop} (hy : OI w 0 y ps) (d : Dsk w F ad rm dn L) {x : Nat} (hx : y.ownBlock = some x) : ¬ F x := by
  intro hF
  obtain ⟨b, xs, hd, _, hf⟩ := d
  obtain ⟨_, _, c, hc⟩ := owns_block hy hx
  rcases (hf x).1 hF with rfl | rfl | ⟨z, hz, e⟩
  · have := hd.blk; rw [hc] at this; cases this
  · obtain ⟨es, cl, hb, _⟩ := hd.map; rw [hc] at hb; cases hb
  · obtain ⟨c', fz, hc'⟩ := (hd.own z hz).kind x e; rw [hc] at hc'; cases hc'
theorem Jy.still (h : Jy W w ad aj rm dn L many P R y ps) (hb : Below w.heap.size w w') : Jy W w' ad aj rm dn L many P R y ps := by
  obtain ⟨o, vp, vr, g, hy, hd⟩ := h
  exact ⟨o.still hb, vp, vr, g.still hb, owns_keeps hy (Keeps.of_below hb (Nat.le_refl _) (fun _ => False)) (fun _ _ e => e), hd⟩
theorem Jy.dsk (h : Jy W w ad aj rm dn L many P R y ps) {f : FuncId} {args : Array Value} {E : Ending → Prop} {dn' : Bool} {L' : List Pt}
    (hc : ∀ F, Dsk w F ad rm dn L → Calls Try.prog f args w fun e w' => E e ∧ ∃ F', Dsk w' F' ad rm dn' L' ∧ Mv8 w F w' F') :
    Calls Try.prog f args w fun e w' => E e ∧ Jy W w' ad aj rm dn' L' many P R y ps := by
  obtain ⟨⟨F, h1, h2, h3⟩, vp, vr, g, hy, hd⟩ := h
  refine (hc F h1).mono ?_
  rintro e w' ⟨he, F', d, m⟩
  exact ⟨he, Own8.step h2 h3 d m, vp, vr, g.keeps m.keeps (fun x hx hF => g.apart h1 hF hx), owns_keeps hy m.keeps (fun x hx => oi_apart hy h1 hx), hd⟩
end
end Go.Proofs.Ytgohgmihoggcpaa
