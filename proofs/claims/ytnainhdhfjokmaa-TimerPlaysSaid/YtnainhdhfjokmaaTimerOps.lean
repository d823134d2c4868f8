/-
  Layer 13 (timer): New, Len, Next, Take, and Set of what may not be.
-/
import Derived.Test.YtnainhdhfjokmaaTimerIns3
import Derived.Test.YtnainhdhfjokmaaTimerDel
import Derived.Test.YtnainhdhfjokmaaEqlCode
import Derived.Handy
namespace Go.Proofs.Ytnainhdhfjokmaa
open Go.ChangeShapes Go.WideShapes Go.ChangeAt Go.RowKit Go.Shelf
set_option linter.unusedVariables false

def errT (c : Nat) : Value := .iface 33 (.int .i64 (c : Nat))
section
variable {w w' : World} {a : Nat} {v : Value} {L : List Du} {F G : Nat → Prop} {d : Du}
theorem new_walk (w : World) :
    Calls Try.prog 6 #[] w fun e w' => e = .returned (.pointer (some ⟨w.heap.size, 0, none⟩)) ∧ Qu w' (fun g => g = w.heap.size) w.heap.size [] ∧ Below w.heap.size w w' := by
  have END : Hid (Qu (w.alloc (.cells #[.slice none 0 0] 45)) (fun g => g = w.heap.size) w.heap.size [] ∧ Below w.heap.size w (w.alloc (.cells #[.slice none 0 0] 45))) :=
    Lib.hid ⟨⟨.slice none 0 0, ⟨heap_alloc_new w _, OwnD.nil _ _⟩, fun g => ⟨.inl, fun h => h.elim (fun e => e) (fun e => by cases e)⟩⟩, (Below.refl _ w).alloc (Nat.le_refl _) _⟩
  go_enter Try.func6, Try.ntmps6
  go_wp2_with fail
  go_ret
  exact ⟨rfl, END.out⟩
theorem len_walk (h : Qu w F a L) :
    Calls Try.prog 12 #[.pointer (some ⟨a, 0, none⟩)] w fun e w' => e = .returned (.int .i64 (L.length : Nat)) ∧ w' = w := by
  obtain ⟨v, h, _⟩ := h
  have c0 := h.c
  obtain ⟨A, cap, rfl, _, _⟩ := h.row.src
  clear h
  generalize L.length = n at *
  go_enter Try.func12, Try.ntmps12
  go_wp2_with fail
  go_ret
  exact ⟨rfl, rfl⟩
set_option maxRecDepth 100000 in
theorem set_early (h : Qu w F a L) (at' what : Int) (h0 : at' < 0) :
    Calls Try.prog 8 #[.pointer (some ⟨a, 0, none⟩), .int .i64 at', .int .i64 what] w fun e w' => e = .returned (errT 1) ∧ w' = w := by
  clear h
  go_enter Try.func8, Try.ntmps8
  go_wp2_with fail
  go_ret
  exact ⟨rfl, rfl⟩
set_option maxRecDepth 100000 in
theorem set_full (h : Qu w F a L) (at' what : Int) (h0 : 0 ≤ at') (hl : L.length = 50) :
    Calls Try.prog 8 #[.pointer (some ⟨a, 0, none⟩), .int .i64 at', .int .i64 what] w fun e w' => e = .returned (errT 6) ∧ w' = w := by
  obtain ⟨v, h, _⟩ := h
  have c0 := h.c
  obtain ⟨A, cap, rfl, _, _⟩ := h.row.src
  clear h
  rw [hl] at c0
  go_enter Try.func8, Try.ntmps8
  go_wp2_with fail
  go_ret
  exact ⟨rfl, rfl⟩
theorem next_none (h : Qu w F a []) :
    Calls Try.prog 11 #[.pointer (some ⟨a, 0, none⟩)] w fun e w' => e = .returned (.tuple #[.agg #[.int .i64 0, .int .i64 0], .bool false]) ∧ Below w.heap.size w w' := by
  obtain ⟨v, h, _⟩ := h
  have c0 := (h.still ((Below.refl w.heap.size w).alloc (Nat.le_refl _) (.cells #[.int .i64 0, .int .i64 0] 35))).c
  have lt := h.lt
  have B := Lib.hid ((Below.refl w.heap.size w).alloc (Nat.le_refl _) (.cells #[.int .i64 0, .int .i64 0] 35))
  obtain ⟨A, cap, rfl, _, _⟩ := h.row.src
  clear h
  go_enter Try.func11, Try.ntmps11
  go_wp2_with fail
  (try simp only [Exit.inBlock, Exit.then])
  go_returns
  exact ⟨rfl, B.out⟩
set_option maxRecDepth 100000 in
theorem next_some (h : Qu w F a (d :: L)) :
    Calls Try.prog 11 #[.pointer (some ⟨a, 0, none⟩)] w fun e w' => e = .returned (.tuple #[.agg #[.int .i64 d.1, .int .i64 d.2], .bool true]) ∧ Below w.heap.size w w' := by
  obtain ⟨v, h, _⟩ := h
  have b1 : Below w.heap.size w (w.alloc (.cells #[.int .i64 0, .int .i64 0] 35)) := (Below.refl w.heap.size w).alloc (Nat.le_refl _) _
  have h1 := h.still b1
  have c0 := h1.c
  have lt := h.lt
  rcases h1.row.parts with ⟨_, e⟩ | ⟨g, cap, cur, rfl, _, hg, _, _, _, _⟩
  · cases e
  have hgl : g < w.heap.size := (h.row.block rfl).2.1
  have k0 : (w.alloc (.cells #[.int .i64 0, .int .i64 0] 35)).cell? ⟨g, 0, none⟩ = some (.int .i64 d.1) := by
    have := World.ownsRow.cellAt h1.row 0 (by simp)
    rw [dueCells_cons] at this
    exact this
  have k1 : (w.alloc (.cells #[.int .i64 0, .int .i64 0] 35)).cell? ⟨g, 1, none⟩ = some (.int .i64 d.2) := by
    have := World.ownsRow.cellAt h1.row 1 (by simp; omega)
    rw [dueCells_cons] at this
    exact this
  have k2 : w.cell? ⟨g, 0, none⟩ = some (.int .i64 d.1) := by rw [← b1.cell (p := ⟨g, 0, none⟩) hgl]; exact k0
  have k3 : w.cell? ⟨g, 1, none⟩ = some (.int .i64 d.2) := by rw [← b1.cell (p := ⟨g, 1, none⟩) hgl]; exact k1
  obtain ⟨n, hn⟩ : ∃ n, (d :: L).length = n + 1 := ⟨_, rfl⟩
  rw [hn] at c0
  have z1 : ¬ ((n : Int) + 1 = 0) := by omega
  have z2 : (0 : Int) < (n : Int) + 1 := by omega
  have B := Lib.hid b1
  clear h h1 hg b1 hn
  go_enter Try.func11, Try.ntmps11
  go_wp2_with fail
  (try simp only [Exit.inBlock, Exit.then])
  go_returns
  exact ⟨rfl, (Below.refl w.heap.size w).alloc (Nat.le_refl _) _⟩
/-- The queue's row is another one. -/
theorem Qb.put (hb : w.heap[a]? = some (.cells #[v] 45 (0, 0))) {v' : Value} {M : List Du} (o : OwnD w 0 v' M) : Qb (w.setCell ⟨a, 0, none⟩ v') a v' M :=
  ⟨by rw [heap_set_same hb]; rfl, o.keeps (F := fun g => g = a) ((Keeps.refl _ w).set _ _ (.inl rfl)) (fun g hg e => o.off hb neQ (by rw [← e]; exact hg))⟩
set_option maxRecDepth 100000 in
theorem take_walk (h : Qu w F a L) {now : Int} {k : Nat} (c : CutAt L now k) (hl : L.length ≤ 1000) :
    Calls Try.prog 9 #[.pointer (some ⟨a, 0, none⟩), .int .i64 now] w fun e w' => ∃ v, e = .returned v ∧ OwnD w' w.heap.size v (L.take k) ∧ Qu w' F a (L.drop k) ∧ Mv8 w F w' F := by
  obtain ⟨v, h, hF⟩ := h
  have CB := Lib.hid (by_walk h c hl)
  have H := Lib.hid h
  have HF := Lib.hid hF
  have hk := c.le
  have hkl : (L.take k).length = k := by rw [List.length_take]; omega
  obtain ⟨A, cap, rfl, hs, _⟩ := h.row.src
  have l1 := sliceD_to A L.length cap k (by have := hs.le; omega) hs.nn
  have HS := Lib.hid hs
  have HC := Lib.hid hl
  clear h hs c hF hl
  obtain ⟨n, hn⟩ : ∃ n, L.length = n := ⟨_, rfl⟩
  rw [hn] at H l1 HF
  have HN := Lib.hid hn
  clear hn
  go_enter Try.func9, Try.ntmps9
  go_wp2_with fail
  refine CB.out.mono ?_
  rintro e w1 ⟨rfl, b1⟩
  have c1 := (H.out.still b1).c
  have CC := Lib.hid (clone_due ((HS.out.take k).still b1) (by rw [hkl]; have := HC.out; omega))
  rw [hkl] at CC
  have B1 := Lib.hid b1
  clear CB b1
  go_wp2_with fail
  refine CC.out.mono ?_
  rintro e w2 ⟨vc, rfl, o2, b2⟩
  have B2 := Lib.hid (B1.out.trans (b2.mono B1.out.size))
  have c2 := (H.out.still B2.out).c
  have CD := Lib.hid (delete_walk (w := w2) (j := k) (H.out.still B2.out).row hk HC.out)
  have O2 := Lib.hid o2
  clear CC b2 o2
  go_wp2_with fail
  refine CD.out.mono ?_
  rintro e w3 ⟨v', rfl, o3, k3, e3⟩
  have blk3 : w3.heap[a]? = some (.cells #[.slice A n cap] 45 (0, 0)) := by rw [k3.block a (H.out.still B2.out).lt (H.out.still B2.out).ne]; exact (H.out.still B2.out).blk
  have c3 := cell_of_block (o := 0) blk3
  have c3 : w3.cell? ⟨a, 0, none⟩ = some (.slice A n cap) := c3
  have f3 := frozen_of_block (o := 0) blk3
  have Q3 := Qb.put blk3 o3
  have hw1 : w.heap.size ≤ w1.heap.size := B1.out.size
  have hlt := H.out.lt
  have hvl : ∀ g, (Value.slice A n cap).ownBlock = some g → g < w.heap.size := fun g hg => (H.out.row.block hg).2.1
  have END : Hid (OwnD (w3.setCell ⟨a, 0, none⟩ v') w.heap.size vc (L.take k) ∧ Qu (w3.setCell ⟨a, 0, none⟩ v') F a (L.drop k) ∧ Mv8 w F (w3.setCell ⟨a, 0, none⟩ v') F) := Lib.hid
    ⟨((O2.out.keeps k3 (fun g hg e => by have := (O2.out.block hg).1; have := hvl g e; omega)).keeps (F := fun g => g = a) ((Keeps.refl _ w3).set _ _ (.inl rfl)) (fun g hg e => by have := (O2.out.block hg).1; omega)).less hw1,
     ⟨v', Q3, fun g => by rw [e3]; exact HF.out g⟩,
     ⟨((Keeps.of_below B2.out (Nat.le_refl _) F).trans (k3.wide (fun g hg _ => (HF.out g).2 (.inr hg))) (fun g hg => .inl hg)).set _ _ (.inl ((HF.out a).2 (.inl rfl))), fun g hg => .inl hg⟩⟩
  obtain ⟨A3, cap3, e', _, _⟩ := o3.src
  obtain ⟨m, hm⟩ : ∃ m, (L.drop k).length = m := ⟨_, rfl⟩
  rw [hm] at e'
  subst e'
  clear hm
  clear CD o3 k3 e3 Q3 blk3 O2 B2 B1 hw1 hlt hvl c1 c2
  go_wp2_with fail
  go_ret
  exact ⟨_, rfl, END.out⟩
/-- What an insertion comes to, in the queue. -/
theorem Insd.fin {w2 w3 : World} {k : Nat} {x : Du} {e : Ending} (h : Qb w a v L) (hF : ∀ g, F g ↔ (g = a ∨ v.ownBlock = some g)) (b : Below w.heap.size w w2) (hI : Insd w2 0 v L k x e w3) (hk : k ≤ L.length) :
    ∃ A c, e = .returned (.slice A (L.length + 1) c) ∧ w3.cell? ⟨a, 0, none⟩ = some v ∧ w3.frozen? ⟨a, 0, none⟩ = false ∧
      ∃ F', Qu (w3.setCell ⟨a, 0, none⟩ (.slice A (L.length + 1) c)) F' a (insD L k x) ∧ Mv8 w F (w3.setCell ⟨a, 0, none⟩ (.slice A (L.length + 1) c)) F' := by
  obtain ⟨v', rfl, o3, k3, n3⟩ := hI
  have h2 := h.still b
  have blk3 : w3.heap[a]? = some (.cells #[v] 45 (0, 0)) := by rw [k3.block a h2.lt h2.ne]; exact h2.blk
  have Q3 := Qb.put blk3 o3
  have hl := insD_length (x := x) hk
  obtain ⟨A3, cap3, e', _, _⟩ := o3.src
  rw [hl] at e'
  subst e'
  refine ⟨A3, cap3, rfl, cell_of_block blk3, frozen_of_block blk3, fun g => g = a ∨ (Value.slice A3 (L.length + 1) cap3).ownBlock = some g, ⟨_, Q3, fun _ => Iff.rfl⟩, ⟨((Keeps.of_below b (Nat.le_refl _) F).trans (k3.wide (fun g hg _ => (hF g).2 (.inr hg))) (fun g hg => .inl hg)).set _ _ (.inl ((hF a).2 (.inl rfl))), fun g hg => ?_⟩⟩
  rcases hg with rfl | hg
  · exact .inl ((hF _).2 (.inl rfl))
  · rcases n3 g hg with e | e
    · exact .inl ((hF _).2 (.inr e))
    · have := b.size; exact .inr (by omega)
end
end Go.Proofs.Ytnainhdhfjokmaa
