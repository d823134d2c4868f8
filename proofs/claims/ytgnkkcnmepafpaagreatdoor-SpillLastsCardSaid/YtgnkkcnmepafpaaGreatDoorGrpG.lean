/-
  Layer 4 (line): the reader's method event: all of a line.
  Layer 4: the document's own Same, at two events that are alike.
  Layer 4: whether an event may be, the program's and the document's own; and whether it is small enough to be gone through.
  Layer 4 (line), what is of no program: the numbers that are written in the one way, reckoned digit by digit.
-/
import Derived.Test.YtgnkkcnmepafpaaGreatDoorGrpF
import Derived.Deep.RegionWith
import Derived.Lib.ItoaMem
namespace Go.Proofs.YtgnkkcnmepafpaaGreatDoor
open Go.ChangeShapes Go.WideShapes Go.ChangeAt Go.RowKit
set_option linter.unusedVariables false

/-- An event in a block of its own. -/
def EvB (w : World) (g : Nat) (n : ByteArray) (A : Option Addr) (l c : Nat) (k v t : Int) : Prop :=
  w.heap[g]? = some (.cells #[.string n, .slice A l c, .int .i64 k, .int .i64 v, .int .i64 t] 131 (0, 0))
section
variable {w w' : World} {g b : Nat} {n : ByteArray} {A : Option Addr} {l c : Nat} {k v t : Int}
theorem EvB.c0 (h : EvB w g n A l c k v t) : w.cell? ⟨g, 0, none⟩ = some (.string n) := cell_of_block h
theorem EvB.c1 (h : EvB w g n A l c k v t) : w.cell? ⟨g, 1, none⟩ = some (.slice A l c) := cell_of_block h
theorem EvB.c2 (h : EvB w g n A l c k v t) : w.cell? ⟨g, 2, none⟩ = some (.int .i64 k) := cell_of_block h
theorem EvB.c3 (h : EvB w g n A l c k v t) : w.cell? ⟨g, 3, none⟩ = some (.int .i64 v) := cell_of_block h
theorem EvB.c4 (h : EvB w g n A l c k v t) : w.cell? ⟨g, 4, none⟩ = some (.int .i64 t) := cell_of_block h
theorem EvB.f (h : EvB w g n A l c k v t) (o : Nat) : w.frozen? ⟨g, o, none⟩ = false := frozen_of_block h
theorem EvB.grown (h : EvB w g n A l c k v t) (hg : w.grownBy w' (some b)) (hb : b ≠ g) : EvB w' g n A l c k v t := by
  unfold EvB; rw [hg.block g (lt_of_block h) (fun e => hb (Option.some.inj e).symm)]; exact h
theorem EvB.set0 (h : EvB w g n A l c k v t) (x : ByteArray) : EvB (w.setCell ⟨g, 0, none⟩ (.string x)) g x A l c k v t := heap_set_same h
theorem EvB.set1 (h : EvB w g n A l c k v t) (A' : Option Addr) (l' c' : Nat) : EvB (w.setCell ⟨g, 1, none⟩ (.slice A' l' c')) g n A' l' c' k v t := heap_set_same h
theorem EvB.set2 (h : EvB w g n A l c k v t) (x : Int) : EvB (w.setCell ⟨g, 2, none⟩ (.int .i64 x)) g n A l c x v t := heap_set_same h
theorem EvB.set3 (h : EvB w g n A l c k v t) (x : Int) : EvB (w.setCell ⟨g, 3, none⟩ (.int .i64 x)) g n A l c k x t := heap_set_same h
theorem EvB.set4 (h : EvB w g n A l c k v t) (x : Int) : EvB (w.setCell ⟨g, 4, none⟩ (.int .i64 x)) g n A l c k v x := heap_set_same h
end

def evVal (n : ByteArray) (A : Option Addr) (l c : Nat) (k v t : Int) : Value := .agg #[.string n, .slice A l c, .int .i64 k, .int .i64 v, .int .i64 t]
def EvFail (w : World) (b : Nat) (s : ByteArray) (p : Nat) (e : Ending) (w' : World) : Prop :=
  ∃ n A l c k v t, e = .returned (.tuple #[evVal n A l c k v t, .bool false]) ∧ Mv w b s p w'
def EvGood (w : World) (b : Nat) (s : ByteArray) (ev : Ev) (e : Ending) (w' : World) : Prop :=
  ∃ A c p, e = .returned (.tuple #[evVal ev.name A ev.tags.length c ev.kind ev.value ev.time, .bool true]) ∧ Mv w b s p w' ∧ OwnT w' w.heap.size A c ev.tags
def EvPost (w : World) (b : Nat) (s : ByteArray) (r : Res) (e : Ending) (w' : World) : Prop :=
  match r with
  | .bad p => EvFail w b s p e w'
  | .good ev => EvGood w b s ev e w'

/-- Where the reading of an event stands: the reader at k, the event's block g, all of it since w. -/
structure At (w : World) (b : Nat) (s : ByteArray) (g k : Nat) (n : ByteArray) (A : Option Addr) (l c : Nat) (kd v t : Int) (ts : Tags) (w1 : World) : Prop where
  mv : Mv w b s k w1
  ev : EvB w1 g n A l c kd v t
  own : ts.length = l ∧ OwnT w1 (g + 1) A c ts
  laid : Laid w1
section
variable {w w1 w2 : World} {b g k j : Nat} {s : ByteArray} {n : ByteArray} {A : Option Addr} {l c : Nat} {kd v t : Int} {ts : Tags}
theorem At.step (h : At w b s g k n A l c kd v t ts w1) (m : Mv w1 b s j w2) (hb7 : 6 ≤ b) (hbg : b < g) : At w b s g j n A l c kd v t ts w2 where
  mv := h.mv.trans m
  ev := h.ev.grown m.grown (Nat.ne_of_lt hbg)
  own := ⟨h.own.1, h.own.2.kept m.grown (by omega)⟩
  laid := h.laid.mv m hb7
theorem OwnT.set {w : World} {base : Nat} {A : Option Addr} {cap : Nat} {ts : Tags} (h : OwnT w base A cap ts) (a : Addr) (v : Value) (ha : a.block < base) : OwnT (w.setCell a v) base A cap ts :=
  h.kept (grown_set (grown_refl _ _) a v (Or.inl rfl)) ha
theorem At.put (h : At w b s g k n A l c kd v t ts w1) (o : Nat) (x : Value) (hb7 : 6 ≤ b) (hbg : b < g) (hg : w.heap.size ≤ g) {n' : ByteArray} {A' : Option Addr} {l' c' : Nat} {kd' v' t' : Int} {ts' : Tags}
    (he : EvB (w1.setCell ⟨g, o, none⟩ x) g n' A' l' c' kd' v' t') (ho : ts'.length = l' ∧ OwnT w1 (g + 1) A' c' ts') : At w b s g k n' A' l' c' kd' v' t' ts' (w1.setCell ⟨g, o, none⟩ x) where
  mv := ⟨grown_set h.mv.grown _ _ (Or.inr hg), h.mv.rd.other _ _ (Nat.ne_of_lt hbg)⟩
  ev := he
  own := ⟨ho.1, ho.2.set _ _ (Nat.lt_succ_self g)⟩
  laid := h.laid.set _ _ (by show 6 ≤ g; omega)
end

theorem Mv.put5 {w w1 : World} {b k g : Nat} {s : ByteArray} (h : Mv w b s k w1) (hb : b < w.heap.size) (hg : w.heap.size ≤ g) (v0 v1 v2 v3 v4 : Value) :
    Mv w b s k (((((w1.setCell ⟨g, 0, none⟩ v0).setCell ⟨g, 1, none⟩ v1).setCell ⟨g, 2, none⟩ v2).setCell ⟨g, 3, none⟩ v3).setCell ⟨g, 4, none⟩ v4) :=
  ((((h.put _ _ hb hg).put _ _ hb hg).put _ _ hb hg).put _ _ hb hg).put _ _ hb hg

theorem OwnT.drew {w : World} {base : Nat} {A : Option Addr} {cap : Nat} {ts : Tags} (h : OwnT w base A cap ts) (n : Nat) : OwnT (w.drewN n) base A cap ts := h
theorem OwnT.set5 {w : World} {base g : Nat} {A : Option Addr} {cap : Nat} {ts : Tags} (h : OwnT w base A cap ts) (hg : g < base) (v0 v1 v2 v3 v4 : Value) :
    OwnT (((((w.setCell ⟨g, 0, none⟩ v0).setCell ⟨g, 1, none⟩ v1).setCell ⟨g, 2, none⟩ v2).setCell ⟨g, 3, none⟩ v3).setCell ⟨g, 4, none⟩ v4) base A cap ts :=
  ((((h.set _ _ hg).set _ _ hg).set _ _ hg).set _ _ hg).set _ _ hg

set_option maxHeartbeats 4000000 in
theorem readEvent (w : World) (b : Nat) (s : ByteArray) (h : Rd w b s 0) (hL : Laid w) (hb7 : 6 ≤ b) (hs : s.size ≤ 300) :
    Calls Tryz.prog 142 #[.pointer (some ⟨b, 0, none⟩)] w (EvPost w b s (parseF s)) := by
  have hbw := h.lt
  have A0 : At w b s w.heap.size 0 ⟨#[]⟩ none 0 0 0 0 0 [] (w.alloc (.cells #[.string ⟨#[]⟩, .slice none 0 0, .int .i64 0, .int .i64 0, .int .i64 0] 131)) :=
    ⟨⟨World.grownBy_alloc _ _ _, h.alloc _⟩, heap_alloc_new w _, ⟨rfl, OwnT.nil _ _⟩, hL.alloc _⟩
  have HA0 := Lib.hid A0
  clear A0 h hL
  go_enter Tryz.func142, Tryz.ntmps142
  go_wp2_with fail
  rcases hw0 : wordAt s 0 with _ | a
  · have HX : Hid (parseF s = .bad 0) := Lib.hid (by unfold parseF; rw [hw0])
    have HW := Lib.hid hw0
    clear hw0
    refine (wordNo _ b s 0 HA0.out.mv.rd hs (Nat.zero_le _) HW.out).mono ?_
    rintro e w1 ⟨rfl, m1⟩
    have HA1 := Lib.hid (HA0.out.step m1 hb7 hbw)
    clear m1
    have c0 := HA1.out.ev.c0
    have c1 := HA1.out.ev.c1
    have c2 := HA1.out.ev.c2
    have c3 := HA1.out.ev.c3
    have c4 := HA1.out.ev.c4
    have f0 := HA1.out.ev.f 0
    have f1 := HA1.out.ev.f 1
    have f2 := HA1.out.ev.f 2
    have f3 := HA1.out.ev.f 3
    have f4 := HA1.out.ev.f 4
    go_wp2_with fail
    refine bodyPost_ret (v := .tuple #[evVal ⟨#[]⟩ none 0 0 0 0 0, .bool false]) (by simp [results, Tryz.results142, go_sem, evVal, c0, c1, c2, c3, c4]) rfl ?_
    rw [HX.out]
    exact ⟨_, _, _, _, _, _, _, rfl, (Mv.put (Mv.put (Mv.put (Mv.put (Mv.put (Mv.put HA1.out.mv _ _ hbw (Nat.le_refl _)) _ _ hbw (Nat.le_refl _)) _ _ hbw (Nat.le_refl _)) _ _ hbw (Nat.le_refl _)) _ _ hbw (Nat.le_refl _)) _ _ hbw (Nat.le_refl _))⟩
  have hx0 : parseF s = parseTags s a (tagsFrom s 6 a []) := by unfold parseF; rw [hw0]
  have has := (wordAt_le (Nat.zero_le _) hw0).2
  have HX0 := Lib.hid hx0
  have HW := Lib.hid hw0
  clear hw0 hx0
  refine (wordYes _ b s 0 a HA0.out.mv.rd hs (Nat.zero_le _) HW.out).mono ?_
  rintro e w1 ⟨rfl, m1⟩
  have HA1 := Lib.hid (HA0.out.step m1 hb7 hbw)
  clear m1
  have c0 := HA1.out.ev.c0
  have c1 := HA1.out.ev.c1
  have c2 := HA1.out.ev.c2
  have c3 := HA1.out.ev.c3
  have c4 := HA1.out.ev.c4
  have f0 := HA1.out.ev.f 0
  have f1 := HA1.out.ev.f 1
  have f2 := HA1.out.ev.f 2
  have f3 := HA1.out.ev.f 3
  have f4 := HA1.out.ev.f 4
  go_wp2_with fail
  clear c0 c1 c2 c3 c4 f0 f1 f2 f3 f4
  have HA2 := Lib.hid (HA1.out.put 0 (.string (s.extract 0 a)) hb7 hbw (Nat.le_refl _) (HA1.out.ev.set0 (s.extract 0 a)) HA1.out.own)
  clear HA1
  have CT := Lib.hid (readTags _ b s a HA2.out.mv.rd hs has)
  rcases htr : tagsFrom s 6 a [] with p | ⟨kb, ts⟩
  · have HX : Hid (parseF s = .bad p) := Lib.hid (by rw [HX0.out, htr]; rfl)
    rw [htr] at CT
    clear htr HX0
    refine CT.out.mono ?_
    rintro e w3 ⟨rfl, m3⟩
    have HA3 := Lib.hid (HA2.out.step m3 hb7 hbw)
    clear m3 CT
    have c0 := HA3.out.ev.c0
    have c1 := HA3.out.ev.c1
    have c2 := HA3.out.ev.c2
    have c3 := HA3.out.ev.c3
    have c4 := HA3.out.ev.c4
    have f0 := HA3.out.ev.f 0
    have f1 := HA3.out.ev.f 1
    have f2 := HA3.out.ev.f 2
    have f3 := HA3.out.ev.f 3
    have f4 := HA3.out.ev.f 4
    go_wp2_with fail
    refine bodyPost_ret (v := .tuple #[evVal (s.extract 0 a) none 0 0 0 0 0, .bool false]) (by simp [results, Tryz.results142, go_sem, evVal, c0, c1, c2, c3, c4]) rfl ?_
    rw [HX.out]
    exact ⟨_, _, _, _, _, _, _, rfl, (Mv.put (Mv.put (Mv.put (Mv.put (Mv.put (Mv.put HA3.out.mv _ _ hbw (Nat.le_refl _)) _ _ hbw (Nat.le_refl _)) _ _ hbw (Nat.le_refl _)) _ _ hbw (Nat.le_refl _)) _ _ hbw (Nat.le_refl _)) _ _ hbw (Nat.le_refl _))⟩
  rw [htr] at CT HX0
  clear htr
  by_cases h32 : chr s kb = 32
  case neg =>
    have HX : Hid (parseF s = .bad kb) := Lib.hid (by rw [HX0.out]; simp only [parseTags, parseKind, h32, if_false])
    refine (CT.out.mono (fun e w' hp => by unfold TagsPost at hp; simp only [h32, if_false] at hp; exact hp : ∀ e w', _ → TagsBad _ b s kb e w')).mono ?_
    clear h32
    rintro e w3 ⟨rfl, m3⟩
    have HA3 := Lib.hid (HA2.out.step m3 hb7 hbw)
    clear m3 CT
    have c0 := HA3.out.ev.c0
    have c1 := HA3.out.ev.c1
    have c2 := HA3.out.ev.c2
    have c3 := HA3.out.ev.c3
    have c4 := HA3.out.ev.c4
    have f0 := HA3.out.ev.f 0
    have f1 := HA3.out.ev.f 1
    have f2 := HA3.out.ev.f 2
    have f3 := HA3.out.ev.f 3
    have f4 := HA3.out.ev.f 4
    go_wp2_with fail
    refine bodyPost_ret (v := .tuple #[evVal (s.extract 0 a) none 0 0 0 0 0, .bool false]) (by simp [results, Tryz.results142, go_sem, evVal, c0, c1, c2, c3, c4]) rfl ?_
    rw [HX.out]
    exact ⟨_, _, _, _, _, _, _, rfl, (Mv.put (Mv.put (Mv.put (Mv.put (Mv.put (Mv.put HA3.out.mv _ _ hbw (Nat.le_refl _)) _ _ hbw (Nat.le_refl _)) _ _ hbw (Nat.le_refl _)) _ _ hbw (Nat.le_refl _)) _ _ hbw (Nat.le_refl _)) _ _ hbw (Nat.le_refl _))⟩
  have hks : kb < s.size := chr_lt_size (by omega)
  refine (CT.out.mono (fun e w' hp => by unfold TagsPost at hp; simp only [h32, if_true] at hp; exact hp : ∀ e w', _ → TagsOk _ b s kb ts e w')).mono ?_
  rintro e w3 ⟨TA, tc, rfl, m3, o3⟩
  have HA3 := Lib.hid (HA2.out.step m3 hb7 hbw)
  have HO3 := Lib.hid (show OwnT w3 (w.heap.size + 1) TA tc ts from o3.mono (by have := HA2.out.mv.grown.size; have := lt_of_block HA2.out.ev; omega))
  have HX1 : Hid (parseF s = parseKind s a ts kb) := Lib.hid HX0.out
  have H32 := Lib.hid h32
  clear m3 o3 CT HX0 h32
  have c0 := HA3.out.ev.c0
  have c1 := HA3.out.ev.c1
  have c2 := HA3.out.ev.c2
  have c3 := HA3.out.ev.c3
  have c4 := HA3.out.ev.c4
  have f0 := HA3.out.ev.f 0
  have f1 := HA3.out.ev.f 1
  have f2 := HA3.out.ev.f 2
  have f3 := HA3.out.ev.f 3
  have f4 := HA3.out.ev.f 4
  go_wp2_with fail
  clear c0 c1 c2 c3 c4 f0 f1 f2 f3 f4
  have HA4 := Lib.hid (HA3.out.put 1 (.slice TA ts.length tc) hb7 hbw (Nat.le_refl _) (HA3.out.ev.set1 TA ts.length tc) ⟨rfl, HO3.out⟩)
  clear HA3 HO3
  refine (passYes _ b s kb 32 HA4.out.mv.rd hs hks (by rw [H32.out]; rfl)).mono ?_
  rintro e w5 ⟨rfl, m5⟩
  have HA5 := Lib.hid (HA4.out.step m5 hb7 hbw)
  clear m5
  go_wp2_with fail
  rcases hkd : kindOf (chr s (kb + 1)) with _ | kd
  · have HX : Hid (parseF s = .bad (kb + 1)) := Lib.hid (by rw [HX1.out, parseKind, if_pos H32.out, hkd])
    have HK := Lib.hid hkd
    clear hkd
    refine (kindNo _ b s (kb + 1) HA5.out.mv.rd hs (by omega) HK.out).mono ?_
    rintro e w6 ⟨rfl, m6⟩
    have HA6 := Lib.hid (HA5.out.step m6 hb7 hbw)
    clear m6
    have c0 := HA6.out.ev.c0
    have c1 := HA6.out.ev.c1
    have c2 := HA6.out.ev.c2
    have c3 := HA6.out.ev.c3
    have c4 := HA6.out.ev.c4
    have f0 := HA6.out.ev.f 0
    have f1 := HA6.out.ev.f 1
    have f2 := HA6.out.ev.f 2
    have f3 := HA6.out.ev.f 3
    have f4 := HA6.out.ev.f 4
    go_wp2_with fail
    refine bodyPost_ret (v := .tuple #[evVal (s.extract 0 a) TA ts.length tc 0 0 0, .bool false]) (by simp [results, Tryz.results142, go_sem, evVal, c0, c1, c2, c3, c4]) rfl ?_
    rw [HX.out]
    exact ⟨_, _, _, _, _, _, _, rfl, (Mv.put (Mv.put (Mv.put (Mv.put (Mv.put (Mv.put HA6.out.mv _ _ hbw (Nat.le_refl _)) _ _ hbw (Nat.le_refl _)) _ _ hbw (Nat.le_refl _)) _ _ hbw (Nat.le_refl _)) _ _ hbw (Nat.le_refl _)) _ _ hbw (Nat.le_refl _))⟩
  have HX2 : Hid (parseF s = parseNum s a ts kd (kb + 1 + 1)) := Lib.hid (by rw [HX1.out, parseKind, if_pos H32.out, hkd])
  have hks2 : kb + 1 < s.size := chr_lt_size (fun h0 => by rw [h0] at hkd; cases hkd)
  have HK := Lib.hid hkd
  clear hkd HX1
  refine (kindYes _ b s (kb + 1) kd HA5.out.mv.rd hs hks2 HK.out).mono ?_
  rintro e w6 ⟨rfl, m6⟩
  have HA6 := Lib.hid (HA5.out.step m6 hb7 hbw)
  clear m6
  have c0 := HA6.out.ev.c0
  have c1 := HA6.out.ev.c1
  have c2 := HA6.out.ev.c2
  have c3 := HA6.out.ev.c3
  have c4 := HA6.out.ev.c4
  have f0 := HA6.out.ev.f 0
  have f1 := HA6.out.ev.f 1
  have f2 := HA6.out.ev.f 2
  have f3 := HA6.out.ev.f 3
  have f4 := HA6.out.ev.f 4
  go_wp2_with fail
  clear c0 c1 c2 c3 c4 f0 f1 f2 f3 f4
  have HA7 := Lib.hid (HA6.out.put 2 (.int .i64 kd) hb7 hbw (Nat.le_refl _) (HA6.out.ev.set2 kd) HA6.out.own)
  clear HA6
  by_cases h33 : chr s (kb + 1 + 1) = 32
  case neg =>
    have HX : Hid (parseF s = .bad (kb + 1 + 1)) := Lib.hid (by rw [HX2.out, parseNum, if_neg h33])
    have H33 := Lib.hid h33
    clear h33
    refine (passNo _ b s (kb + 1 + 1) 32 HA7.out.mv.rd hs (by omega) (by intro h; exact H33.out (by omega))).mono ?_
    rintro e w8 ⟨rfl, m8⟩
    have HA8 := Lib.hid (HA7.out.step m8 hb7 hbw)
    clear m8
    have c0 := HA8.out.ev.c0
    have c1 := HA8.out.ev.c1
    have c2 := HA8.out.ev.c2
    have c3 := HA8.out.ev.c3
    have c4 := HA8.out.ev.c4
    have f0 := HA8.out.ev.f 0
    have f1 := HA8.out.ev.f 1
    have f2 := HA8.out.ev.f 2
    have f3 := HA8.out.ev.f 3
    have f4 := HA8.out.ev.f 4
    go_wp2_with fail
    refine bodyPost_ret (v := .tuple #[evVal (s.extract 0 a) TA ts.length tc kd 0 0, .bool false]) (by simp [results, Tryz.results142, go_sem, evVal, c0, c1, c2, c3, c4]) rfl ?_
    rw [HX.out]
    exact ⟨_, _, _, _, _, _, _, rfl, (Mv.put (Mv.put (Mv.put (Mv.put (Mv.put HA8.out.mv _ _ hbw (Nat.le_refl _)) _ _ hbw (Nat.le_refl _)) _ _ hbw (Nat.le_refl _)) _ _ hbw (Nat.le_refl _)) _ _ hbw (Nat.le_refl _))⟩
  have hks3 : kb + 1 + 1 < s.size := chr_lt_size (by omega)
  have H33 := Lib.hid h33
  clear h33
  refine (passYes _ b s (kb + 1 + 1) 32 HA7.out.mv.rd hs hks3 (by rw [H33.out]; rfl)).mono ?_
  rintro e w8 ⟨rfl, m8⟩
  have HA8 := Lib.hid (HA7.out.step m8 hb7 hbw)
  clear m8
  go_wp2_with fail
  have CN := Lib.hid (readNum _ b s (kb + 1 + 1 + 1) (-9223372036854775808) 9223372036854775807 HA8.out.mv.rd HA8.out.laid hb7 hs (by omega) (by omega) (by omega) (by omega) (by omega))
  rcases hn1 : numAt s (kb + 1 + 1 + 1) (-9223372036854775808) 9223372036854775807 with _ | v
  · have HX : Hid (parseF s = .bad (kb + 1 + 1 + 1)) := Lib.hid (by rw [HX2.out, parseNum, if_pos H33.out, hn1])
    rw [hn1] at CN
    clear hn1
    refine CN.out.mono ?_
    rintro e w9 ⟨rfl, m9⟩
    have HA9 := Lib.hid (HA8.out.step m9 hb7 hbw)
    clear m9 CN
    have c0 := HA9.out.ev.c0
    have c1 := HA9.out.ev.c1
    have c2 := HA9.out.ev.c2
    have c3 := HA9.out.ev.c3
    have c4 := HA9.out.ev.c4
    have f0 := HA9.out.ev.f 0
    have f1 := HA9.out.ev.f 1
    have f2 := HA9.out.ev.f 2
    have f3 := HA9.out.ev.f 3
    have f4 := HA9.out.ev.f 4
    go_wp2_with fail
    refine bodyPost_ret (v := .tuple #[evVal (s.extract 0 a) TA ts.length tc kd 0 0, .bool false]) (by simp [results, Tryz.results142, go_sem, evVal, c0, c1, c2, c3, c4]) rfl ?_
    rw [HX.out]
    exact ⟨_, _, _, _, _, _, _, rfl, (Mv.put (Mv.put (Mv.put (Mv.put (Mv.put (Mv.put HA9.out.mv _ _ hbw (Nat.le_refl _)) _ _ hbw (Nat.le_refl _)) _ _ hbw (Nat.le_refl _)) _ _ hbw (Nat.le_refl _)) _ _ hbw (Nat.le_refl _)) _ _ hbw (Nat.le_refl _))⟩
  have HX3 : Hid (parseF s = parseEnd s a ts kd v (numEnd s (kb + 1 + 1 + 1))) := Lib.hid (by rw [HX2.out, parseNum, if_pos H33.out, hn1])
  have hle := numEnd_le (s := s) (k := kb + 1 + 1 + 1) (by omega)
  rw [hn1] at CN
  clear hn1 HX2
  generalize numEnd s (kb + 1 + 1 + 1) = kc at CN HX3 hle
  obtain ⟨hle0, hle1⟩ := hle
  refine CN.out.mono ?_
  rintro e w9 ⟨rfl, m9⟩
  have HA9 := Lib.hid (HA8.out.step m9 hb7 hbw)
  clear m9 CN
  have c0 := HA9.out.ev.c0
  have c1 := HA9.out.ev.c1
  have c2 := HA9.out.ev.c2
  have c3 := HA9.out.ev.c3
  have c4 := HA9.out.ev.c4
  have f0 := HA9.out.ev.f 0
  have f1 := HA9.out.ev.f 1
  have f2 := HA9.out.ev.f 2
  have f3 := HA9.out.ev.f 3
  have f4 := HA9.out.ev.f 4
  go_wp2_with fail
  clear c0 c1 c2 c3 c4 f0 f1 f2 f3 f4
  have HA10 := Lib.hid (HA9.out.put 3 (.int .i64 v) hb7 hbw (Nat.le_refl _) (HA9.out.ev.set3 v) HA9.out.own)
  clear HA9
  by_cases h34 : chr s kc = 32
  case neg =>
    have HX : Hid (parseF s = .bad kc) := Lib.hid (by rw [HX3.out, parseEnd, if_neg h34])
    have H34 := Lib.hid h34
    clear h34
    refine (passNo _ b s kc 32 HA10.out.mv.rd hs hle1 (by intro h; exact H34.out (by omega))).mono ?_
    rintro e w11 ⟨rfl, m11⟩
    have HA11 := Lib.hid (HA10.out.step m11 hb7 hbw)
    clear m11
    have c0 := HA11.out.ev.c0
    have c1 := HA11.out.ev.c1
    have c2 := HA11.out.ev.c2
    have c3 := HA11.out.ev.c3
    have c4 := HA11.out.ev.c4
    have f0 := HA11.out.ev.f 0
    have f1 := HA11.out.ev.f 1
    have f2 := HA11.out.ev.f 2
    have f3 := HA11.out.ev.f 3
    have f4 := HA11.out.ev.f 4
    go_wp2_with fail
    refine bodyPost_ret (v := .tuple #[evVal (s.extract 0 a) TA ts.length tc kd v 0, .bool false]) (by simp [results, Tryz.results142, go_sem, evVal, c0, c1, c2, c3, c4]) rfl ?_
    rw [HX.out]
    exact ⟨_, _, _, _, _, _, _, rfl, (Mv.put (Mv.put (Mv.put (Mv.put (Mv.put HA11.out.mv _ _ hbw (Nat.le_refl _)) _ _ hbw (Nat.le_refl _)) _ _ hbw (Nat.le_refl _)) _ _ hbw (Nat.le_refl _)) _ _ hbw (Nat.le_refl _))⟩
  have hks4 : kc < s.size := chr_lt_size (by omega)
  have H34 := Lib.hid h34
  clear h34
  refine (passYes _ b s kc 32 HA10.out.mv.rd hs hks4 (by rw [H34.out]; rfl)).mono ?_
  rintro e w11 ⟨rfl, m11⟩
  have HA11 := Lib.hid (HA10.out.step m11 hb7 hbw)
  clear m11
  go_wp2_with fail
  have CM := Lib.hid (readNum _ b s (kc + 1) 0 1099511627776 HA11.out.mv.rd HA11.out.laid hb7 hs (by omega) (by omega) (by omega) (by omega) (by omega))
  rcases hn2 : numAt s (kc + 1) 0 1099511627776 with _ | tm
  · have HX : Hid (parseF s = .bad (kc + 1)) := Lib.hid (by rw [HX3.out, parseEnd, if_pos H34.out, hn2])
    rw [hn2] at CM
    clear hn2
    refine CM.out.mono ?_
    rintro e w12 ⟨rfl, m12⟩
    have HA12 := Lib.hid (HA11.out.step m12 hb7 hbw)
    clear m12 CM
    have c0 := HA12.out.ev.c0
    have c1 := HA12.out.ev.c1
    have c2 := HA12.out.ev.c2
    have c3 := HA12.out.ev.c3
    have c4 := HA12.out.ev.c4
    have f0 := HA12.out.ev.f 0
    have f1 := HA12.out.ev.f 1
    have f2 := HA12.out.ev.f 2
    have f3 := HA12.out.ev.f 3
    have f4 := HA12.out.ev.f 4
    go_wp2_with fail
    clear c0 c1 c2 c3 c4 f0 f1 f2 f3 f4
    have hA := HA12.out.put 4 (.int .i64 0) hb7 hbw (Nat.le_refl _) (HA12.out.ev.set4 0) HA12.out.own
    generalize w12.setCell ⟨w.heap.size, 4, none⟩ (.int .i64 0) = w13 at hA ⊢
    have HA13 := Lib.hid hA
    clear hA HA12
    have c0 := HA13.out.ev.c0
    have c1 := HA13.out.ev.c1
    have c2 := HA13.out.ev.c2
    have c3 := HA13.out.ev.c3
    have c4 := HA13.out.ev.c4
    have f0 := HA13.out.ev.f 0
    have f1 := HA13.out.ev.f 1
    have f2 := HA13.out.ev.f 2
    have f3 := HA13.out.ev.f 3
    have f4 := HA13.out.ev.f 4
    go_region
    all_goals go_wp2_with fail
    all_goals
      refine bodyPost_ret (v := .tuple #[evVal (s.extract 0 a) TA ts.length tc kd v 0, .bool false]) (by simp [results, Tryz.results142, go_sem, evVal, c0, c1, c2, c3, c4]) rfl ?_
      rw [HX.out]
      exact ⟨_, _, _, _, _, _, _, rfl, ((Mv.put (Mv.put (Mv.put (Mv.put (Mv.put HA13.out.mv _ _ hbw (Nat.le_refl _)) _ _ hbw (Nat.le_refl _)) _ _ hbw (Nat.le_refl _)) _ _ hbw (Nat.le_refl _)) _ _ hbw (Nat.le_refl _))).drew1⟩
  have HX4 : Hid (parseF s = if numEnd s (kc + 1) < s.size then .bad (numEnd s (kc + 1)) else .good ⟨s.extract 0 a, ts, kd, v, tm⟩) := Lib.hid (by rw [HX3.out, parseEnd, if_pos H34.out, hn2])
  have hlf := numEnd_le (s := s) (k := kc + 1) (by omega)
  rw [hn2] at CM
  clear hn2 HX3
  generalize numEnd s (kc + 1) = ke at CM HX4 hlf
  obtain ⟨hlf0, hlf1⟩ := hlf
  refine CM.out.mono ?_
  rintro e w12 ⟨rfl, m12⟩
  have HA12 := Lib.hid (HA11.out.step m12 hb7 hbw)
  clear m12 CM
  have c0 := HA12.out.ev.c0
  have c1 := HA12.out.ev.c1
  have c2 := HA12.out.ev.c2
  have c3 := HA12.out.ev.c3
  have c4 := HA12.out.ev.c4
  have f0 := HA12.out.ev.f 0
  have f1 := HA12.out.ev.f 1
  have f2 := HA12.out.ev.f 2
  have f3 := HA12.out.ev.f 3
  have f4 := HA12.out.ev.f 4
  go_wp2_with fail
  clear c0 c1 c2 c3 c4 f0 f1 f2 f3 f4
  have hA := HA12.out.put 4 (.int .i64 tm) hb7 hbw (Nat.le_refl _) (HA12.out.ev.set4 tm) HA12.out.own
  generalize w12.setCell ⟨w.heap.size, 4, none⟩ (.int .i64 tm) = w13 at hA ⊢
  have HA13 := Lib.hid hA
  clear hA HA12 HA11 HA10 HA8 HA7 HA5 HA4 HA2 HA0
  have c0 := HA13.out.ev.c0
  have c1 := HA13.out.ev.c1
  have c2 := HA13.out.ev.c2
  have c3 := HA13.out.ev.c3
  have c4 := HA13.out.ev.c4
  have f0 := HA13.out.ev.f 0
  have f1 := HA13.out.ev.f 1
  have f2 := HA13.out.ev.f 2
  have f3 := HA13.out.ev.f 3
  have f4 := HA13.out.ev.f 4
  have R0 := Lib.hid (HA13.out.mv.drew1.rd)
  have R5 := Lib.hid ((HA13.out.mv.put5 hbw (Nat.le_refl _) (.string (s.extract 0 a)) (.slice TA ts.length tc) (.int .i64 kd) (.int .i64 v) (.int .i64 tm)).drew1.rd)
  by_cases hend : ke = s.size
  · have HX : Hid (parseF s = .good ⟨s.extract 0 a, ts, kd, v, tm⟩) := Lib.hid (by rw [HX4.out, if_neg (by omega)])
    have ed : decide (ke = s.size) = true := decide_eq_true hend
    clear hend HX4
    go_region_with (go_at_call 149; refine (readEnds _ b s ke ?_ hs hlf1).mono ?_; (first | exact R0.out | exact R5.out); rw [ed]; rintro e w' ⟨rfl, n, rfl⟩)
    all_goals go_wp2_with fail
    all_goals
      refine bodyPost_ret (v := .tuple #[evVal (s.extract 0 a) TA ts.length tc kd v tm, .bool true]) (by simp [results, Tryz.results142, go_sem, evVal, c0, c1, c2, c3, c4]) rfl ?_
      rw [HX.out]
      exact ⟨TA, tc, ke, rfl, (HA13.out.mv.drew _).put5 hbw (Nat.le_refl _) _ _ _ _ _, (OwnT.set5 (HA13.out.own.2.drew _) (Nat.lt_succ_self _) _ _ _ _ _).mono (Nat.le_succ _)⟩
  · have HX : Hid (parseF s = .bad ke) := Lib.hid (by rw [HX4.out, if_pos (by omega)])
    have ed : decide (ke = s.size) = false := decide_eq_false hend
    clear hend HX4
    go_region_with (go_at_call 149; refine (readEnds _ b s ke ?_ hs hlf1).mono ?_; (first | exact R0.out | exact R5.out); rw [ed]; rintro e w' ⟨rfl, n, rfl⟩)
    all_goals go_wp2_with fail
    all_goals
      refine bodyPost_ret (v := .tuple #[evVal (s.extract 0 a) TA ts.length tc kd v tm, .bool false]) (by simp [results, Tryz.results142, go_sem, evVal, c0, c1, c2, c3, c4]) rfl ?_
      rw [HX.out]
      exact ⟨_, _, _, _, _, _, _, rfl, (HA13.out.mv.drew _).put5 hbw (Nat.le_refl _) _ _ _ _ _⟩
end Go.Proofs.YtgnkkcnmepafpaaGreatDoor
namespace Go.Proofs.YtgnkkcnmepafpaaGreatDoor
open Go.ChangeShapes Go.WideShapes Go.ChangeAt Go.RowKit
set_option linter.unusedVariables false

/-- Tags, wherever they lie. -/
def RdT (w : World) (A : Option Addr) (ts : Tags) : Prop :=
  ts = [] ∨ ∃ b o, A = some ⟨b, o, none⟩ ∧ ∀ i x y, ts[i]? = some (x, y) → w.cell? ⟨b, o + i * 2, none⟩ = some (.string x) ∧ w.cell? ⟨b, o + i * 2 + 1, none⟩ = some (.string y)
theorem RdT.keep {w w' : World} {A : Option Addr} {ts : Tags} (h : RdT w A ts) (hk : ∀ b o v, w.cell? ⟨b, o, none⟩ = some v → w'.cell? ⟨b, o, none⟩ = some v) : RdT w' A ts := by
  rcases h with h | ⟨b, o, e, h⟩
  · exact .inl h
  · exact .inr ⟨b, o, e, fun i x y hi => ⟨hk _ _ _ (h i x y hi).1, hk _ _ _ (h i x y hi).2⟩⟩
theorem RdT.below {w w' : World} {A : Option Addr} {ts : Tags} (h : RdT w A ts) (hb : Below w.heap.size w w') : RdT w' A ts :=
  h.keep fun b o v hc => by rw [hb.cell (World.block_lt_of_cell? w _ hc), hc]
theorem RdT.alloc {w : World} {A : Option Addr} {ts : Tags} (h : RdT w A ts) (x : Obj) : RdT (w.alloc x) A ts := h.below ((Below.refl _ _).alloc (Nat.le_refl _) _)
theorem tagCells_at (ts : Tags) : ∀ i x y, ts[i]? = some (x, y) → (tagCells ts)[i * 2]? = some (.string x) ∧ (tagCells ts)[i * 2 + 1]? = some (.string y) := by
  induction ts with
  | nil => intro i x y h; simp at h
  | cons t r ih =>
    intro i x y h
    cases i with
    | zero => simp at h; subst h; exact ⟨rfl, rfl⟩
    | succ i =>
      have h' : r[i]? = some (x, y) := by simpa using h
      have := ih i x y h'
      rw [show (i + 1) * 2 = i * 2 + 1 + 1 by omega]
      exact this
theorem OwnT.rd {w : World} {base : Nat} {A : Option Addr} {cap : Nat} {ts : Tags} (h : OwnT w base A cap ts) : RdT w A ts := by
  rcases h.2 with ⟨hv, hn⟩ | ⟨g, cap', cur, hv, hb, hg, hnc, hcm, hcs, htake⟩
  · exact .inl (List.eq_nil_of_length_eq_zero hn)
  · have hA : A = some ⟨g, 0, none⟩ := by cases hv; rfl
    refine .inr ⟨g, 0, hA, fun i x y hi => ?_⟩
    obtain ⟨h0, h1⟩ := tagCells_at ts i x y hi
    have hl := tagCells_length ts
    have hi' : i < ts.length := (List.getElem?_eq_some_iff.1 hi).1
    constructor
    · rw [Nat.zero_add, cell_of_block hg, ← h0, ← htake, List.getElem?_take, if_pos (by omega)]; simp
    · rw [Nat.zero_add, cell_of_block hg, ← h1, ← htake, List.getElem?_take, if_pos (by omega)]; simp

theorem eq_pair (x y : ByteArray) (w : World) : (Op.equalIn 10000 170 (.agg #[.string x, .string y]) (.agg #[.string x, .string y])).run Tryz.prog w = .ok true w := by
  have u9 := Tryz.underlying9
  have a9 := Tryz.isAgg9
  have z9 := Tryz.sizeOf9
  have hS : Tryz.prog.underlying 170 = some (.struct (Tryz.prog.fieldsOf 170)) := by kernel_rfl
  have hp : Tryz.prog.stoodInHeld 170 = false := by kernel_rfl
  rw [show (10000 : Nat) = 9999 + 1 from rfl, run_equalIn_agg w 9999 170 _ _ hS hp]
  simp only [Program.fieldsOf, Tryz.underlying170]
  go_simp
theorem guard_pair : Tryz.prog.eqGuardType Tryz.prog.depth 170 = false := by kernel_rfl

end Go.Proofs.YtgnkkcnmepafpaaGreatDoor
namespace Go.Proofs.YtgnkkcnmepafpaaGreatDoor
open Go.ChangeShapes Go.WideShapes Go.ChangeAt Go.RowKit
set_option linter.unusedVariables false

def tagOk (t : ByteArray × ByteArray) : Bool := wordB t.1 && wordB t.2
def restOk (k t : Int) : Bool := decide (1 ≤ k) && decide (k ≤ 3) && decide (0 ≤ t) && decide (t ≤ 1099511627776)
def mayB (n : ByteArray) (ts : Tags) (k t : Int) : Bool := wordB n && decide (ts.length ≤ 6) && ts.all tagOk && restOk k t
def Small (n : ByteArray) (ts : Tags) : Prop := n.size ≤ 100 ∧ ts.length ≤ 20 ∧ ∀ x y, (x, y) ∈ ts → x.size ≤ 100 ∧ y.size ≤ 100

/-- Tags that are gone through in a block of an event, wherever they lie. -/
structure Go4 (w : World) (g : Nat) (n : ByteArray) (A : Option Addr) (c : Nat) (k v t : Int) (ts : Tags) (wr : World) : Prop where
  below : Below w.heap.size w wr
  ev : EvB wr g n A ts.length c k v t
  rd : RdT wr A ts
theorem Go4.at {w : World} {g : Nat} {n : ByteArray} {A : Option Addr} {c : Nat} {k v t : Int} {ts : Tags} {wr : World} (h : Go4 w g n A c k v t ts wr) {i : Nat} {x y : ByteArray} (hi : ts[i]? = some (x, y)) :
    ∃ b o, A = some ⟨b, o, none⟩ ∧ wr.cell? ⟨b, o + i * 2, none⟩ = some (.string x) ∧ wr.cell? ⟨b, o + i * 2 + 1, none⟩ = some (.string y) := by
  rcases h.rd with h0 | ⟨b, o, e, hc⟩
  · rw [h0] at hi; simp at hi
  · exact ⟨b, o, e, hc i x y hi⟩
theorem Go4.start (w : World) (n : ByteArray) (A : Option Addr) (c : Nat) (k v t : Int) (ts : Tags) (hr : RdT w A ts) :
    Go4 w w.heap.size n A c k v t ts (w.alloc (.cells #[.string n, .slice A ts.length c, .int .i64 k, .int .i64 v, .int .i64 t] 131)) :=
  ⟨(Below.refl _ _).alloc (Nat.le_refl _) _, heap_alloc_new w _, hr.alloc _⟩
theorem Go4.more {w : World} {g : Nat} {n : ByteArray} {A : Option Addr} {c : Nat} {k v t : Int} {ts : Tags} {wr : World} (h : Go4 w g n A c k v t ts wr) (o : Obj) : Go4 w g n A c k v t ts (wr.alloc o) :=
  ⟨h.below.alloc h.below.size _, by unfold EvB; rw [(World.grownBy_alloc _ _ none).block _ (lt_of_block h.ev) (by simp)]; exact h.ev, h.rd.alloc _⟩

theorem Go4.drew {w : World} {g : Nat} {n : ByteArray} {A : Option Addr} {c : Nat} {k v t : Int} {ts : Tags} {wr : World} (h : Go4 w g n A c k v t ts wr) (m : Nat) : Go4 w g n A c k v t ts (wr.drewN m) :=
  ⟨⟨h.below.os, h.below.tape, h.below.output, h.below.size, h.below.block⟩, h.ev, h.rd.keep fun b o x hc => hc⟩
def BB (b : Bool) (w : World) (e : Ending) (w' : World) : Prop := e = .returned (.bool b) ∧ Below w.heap.size w w'
theorem all_false {ts : Tags} {i : Nat} {x y : ByteArray} (h : ts[i]? = some (x, y)) (hb : tagOk (x, y) = false) : ts.all tagOk = false := by
  rw [List.all_eq_false]; exact ⟨(x, y), List.mem_of_getElem? h, by rw [hb]; simp⟩
def AllOk (ts : Tags) (i : Nat) : Prop := (ts.take i).all tagOk = true
theorem AllOk.next {ts : Tags} {i : Nat} {x y : ByteArray} (h : AllOk ts i) (hi : ts[i]? = some (x, y)) (hb : tagOk (x, y) = true) : AllOk ts (i + 1) := by
  unfold AllOk at h ⊢
  obtain ⟨hl, e⟩ := List.getElem?_eq_some_iff.1 hi
  rw [List.take_succ_eq_append_getElem hl, List.all_append, h, e]
  simp [hb]
theorem AllOk.whole {ts : Tags} {i : Nat} (h : AllOk ts i) (hi : ts.length ≤ i) : ts.all tagOk = true := by
  unfold AllOk at h
  rwa [List.take_of_length_le hi] at h

/-- How the last test goes, of the kind and the time. -/
theorem rest_cases (k t : Int) : (decide (1 ≤ k) = false ∧ restOk k t = false) ∨ (decide (1 ≤ k) = true ∧ decide (k ≤ 3) = false ∧ restOk k t = false)
    ∨ (decide (1 ≤ k) = true ∧ decide (k ≤ 3) = true ∧ decide (0 ≤ t) = false ∧ restOk k t = false) ∨ (decide (1 ≤ k) = true ∧ decide (k ≤ 3) = true ∧ decide (0 ≤ t) = true ∧ decide (t ≤ 1099511627776) = false ∧ restOk k t = false)
    ∨ (decide (1 ≤ k) = true ∧ decide (k ≤ 3) = true ∧ decide (0 ≤ t) = true ∧ decide (t ≤ 1099511627776) = true ∧ restOk k t = true) := by
  unfold restOk
  cases h1 : decide (1 ≤ k)
  · exact .inl ⟨rfl, by simp⟩
  cases h2 : decide (k ≤ 3)
  · exact .inr (.inl ⟨rfl, rfl, by simp⟩)
  cases h3 : decide (0 ≤ t)
  · exact .inr (.inr (.inl ⟨rfl, rfl, rfl, by simp⟩))
  cases h4 : decide (t ≤ 1099511627776)
  · exact .inr (.inr (.inr (.inl ⟨rfl, rfl, rfl, rfl, by simp⟩)))
  · exact .inr (.inr (.inr (.inr ⟨rfl, rfl, rfl, rfl, by simp⟩)))

end Go.Proofs.YtgnkkcnmepafpaaGreatDoor
namespace Go.Proofs.YtgnkkcnmepafpaaGreatDoor

def digitOn (a : Nat) (c : UInt8) : Nat := 10 * a + (c.toNat - 48)
def natFrom (a : Nat) (l : List UInt8) : Nat := l.foldl digitOn a
theorem rev_ind {P : List UInt8 → Prop} (h0 : P []) (h1 : ∀ l c, P l → P (l ++ [c])) (l : List UInt8) : P l := by
  have : ∀ m : List UInt8, P m.reverse := fun m => by
    induction m with
    | nil => exact h0
    | cons c m ih => rw [List.reverse_cons]; exact h1 _ c ih
  have h := this l.reverse
  rwa [List.reverse_reverse] at h
def natOf (l : List UInt8) : Nat := natFrom 0 l
theorem natFrom_cons (a : Nat) (c : UInt8) (l : List UInt8) : natFrom a (c :: l) = natFrom (10 * a + (c.toNat - 48)) l := by
  have h : natFrom a (c :: l) = natFrom (digitOn a c) l := by unfold natFrom; rw [List.foldl_cons]
  rw [h, digitOn]
theorem natFrom_nil (a : Nat) : natFrom a [] = a := by unfold natFrom; rw [List.foldl_nil]
theorem natFrom_snoc (c : UInt8) : ∀ (l : List UInt8) (a : Nat), natFrom a (l ++ [c]) = 10 * natFrom a l + (c.toNat - 48)
  | [], a => by rw [List.nil_append, natFrom_cons, natFrom_nil, natFrom_nil]
  | d :: l, a => by rw [List.cons_append, natFrom_cons, natFrom_cons, natFrom_snoc c l]
theorem natOf_nil : natOf [] = 0 := by unfold natOf; rw [natFrom_nil]
theorem natOf_snoc (l : List UInt8) (c : UInt8) : natOf (l ++ [c]) = 10 * natOf l + (c.toNat - 48) := natFrom_snoc c l 0
theorem natFrom_ge : ∀ (l : List UInt8) (a : Nat), a ≤ natFrom a l
  | [], a => by rw [natFrom_nil]; exact Nat.le_refl _
  | c :: l, a => by rw [natFrom_cons]; have := natFrom_ge l (10 * a + (c.toNat - 48)); omega
theorem isD_iff (c : UInt8) : isD c = true ↔ 48 ≤ c.toNat ∧ c.toNat ≤ 57 := by unfold isD; simp
theorem natOf_lt (l : List UInt8) (h : ∀ c ∈ l, isD c = true) : natOf l < 10 ^ l.length := by
  induction l using rev_ind with
  | h0 => rw [natOf_nil]; simp
  | h1 l c ih =>
    have hc := (isD_iff c).1 (h c (by simp))
    have := ih (fun d hd => h d (by simp [hd]))
    rw [natOf_snoc, List.length_append, List.length_singleton, Nat.pow_succ]
    omega
def lead (l : List UInt8) : Prop := ∀ c, l.head? = some c → c.toNat ≠ 48
theorem natFrom_digits : ∀ (l : List UInt8) (a : Nat), a * 10 ^ l.length ≤ natFrom a l
  | [], a => by rw [natFrom_nil]; simp
  | c :: l, a => by
    rw [natFrom_cons, List.length_cons, Nat.pow_succ]
    have := natFrom_digits l (10 * a + (c.toNat - 48))
    have h2 : a * (10 ^ l.length * 10) ≤ (10 * a + (c.toNat - 48)) * 10 ^ l.length := by
      rw [Nat.add_mul]
      have : a * (10 ^ l.length * 10) = 10 * a * 10 ^ l.length := by rw [Nat.mul_comm (10 ^ l.length) 10, ← Nat.mul_assoc, Nat.mul_comm a 10]
      omega
    omega
theorem natOf_ge {c : UInt8} {l : List UInt8} (h : isD c = true) (h0 : c.toNat ≠ 48) : 10 ^ l.length ≤ natOf (c :: l) := by
  have hc := (isD_iff c).1 h
  have := natFrom_digits l (10 * 0 + (c.toNat - 48))
  unfold natOf
  rw [natFrom_cons]
  refine Nat.le_trans ?_ this
  have : 1 * 10 ^ l.length ≤ (10 * 0 + (c.toNat - 48)) * 10 ^ l.length := Nat.mul_le_mul_right _ (by omega)
  omega

theorem u8_digit (c : UInt8) (h : isD c = true) : UInt8.ofNat (48 + (c.toNat - 48)) = c := by
  have hc := (isD_iff c).1 h
  rw [show 48 + (c.toNat - 48) = c.toNat by omega]
  exact UInt8.ofNat_toNat
/-- Digits without a 0 ahead are the numeral of their number. -/
theorem dec_natOf (l : List UInt8) (hne : l ≠ []) (hd : ∀ c ∈ l, isD c = true) (hc : lead l ∨ l.length = 1) : Lib.decDigits (natOf l) = l := by
  induction l using rev_ind with
  | h0 => exact absurd rfl hne
  | h1 l c ih =>
    have hcd := hd c (by simp)
    have hcb := (isD_iff c).1 hcd
    cases l with
    | nil =>
      have e : natOf ([] ++ [c]) = c.toNat - 48 := by rw [natOf_snoc, natOf_nil]; omega
      rw [e, Lib.decDigits_one (by omega), u8_digit c hcd]; rfl
    | cons d l =>
      have hl : lead (d :: l) := by
        rcases hc with h | h
        · intro x hx; exact h x (by simpa using hx)
        · simp at h
      have hpos : 1 ≤ natOf (d :: l) := by
        have := natOf_ge (l := l) (hd d (by simp)) (hl d rfl)
        have := Nat.one_le_pow l.length 10 (by omega)
        omega
      have ih' := ih (by simp) (fun x hx => hd x (by simp only [List.mem_append]; exact .inl hx)) (.inl hl)
      rw [natOf_snoc, Lib.decDigits, dif_neg (by omega), show (10 * natOf (d :: l) + (c.toNat - 48)) / 10 = natOf (d :: l) by omega, ih', show (10 * natOf (d :: l) + (c.toNat - 48)) % 10 = c.toNat - 48 by omega, u8_digit c hcd]
theorem digit_toNat (k : Nat) (h : k < 10) : (UInt8.ofNat (48 + k)).toNat = 48 + k := by rw [UInt8.toNat_ofNat']; omega
theorem dec_digits (u : Nat) : ∀ c ∈ Lib.decDigits u, isD c = true := by
  induction u using Nat.strongRecOn with
  | _ u ih =>
    intro c hc
    have one : ∀ k, k < 10 → isD (UInt8.ofNat (48 + k)) = true := fun k hk => by
      rw [isD_iff, digit_toNat k hk]; omega
    rw [Lib.decDigits] at hc
    split at hc
    · rw [List.mem_singleton.1 hc]; exact one u (by omega)
    · rcases List.mem_append.1 hc with h | h
      · exact ih (u / 10) (by omega) c h
      · rw [List.mem_singleton.1 h]; exact one (u % 10) (by omega)
theorem dec_ne (u : Nat) : Lib.decDigits u ≠ [] := by
  rw [Lib.decDigits]; split <;> simp
theorem dec_lead (u : Nat) (hu : 1 ≤ u) : lead (Lib.decDigits u) := by
  induction u using Nat.strongRecOn with
  | _ u ih =>
    intro c hc
    rw [Lib.decDigits] at hc
    split at hc
    · rename_i hlt
      have e : UInt8.ofNat (48 + u) = c := Option.some.inj hc
      rw [← e, digit_toNat u hlt]; omega
    · have := ih (u / 10) (by omega) (by omega)
      refine this c ?_
      rw [List.head?_append] at hc
      cases h : (Lib.decDigits (u / 10)).head? with
      | none => exact absurd (List.head?_eq_none_iff.1 h) (dec_ne _)
      | some d => rw [h] at hc; exact hc
theorem natOf_dec (u : Nat) : natOf (Lib.decDigits u) = u := by
  induction u using Nat.strongRecOn with
  | _ u ih =>
    rw [Lib.decDigits]
    split
    · rename_i hlt
      have := natOf_snoc [] (UInt8.ofNat (48 + u))
      rw [List.nil_append, natOf_nil, digit_toNat u hlt] at this
      omega
    · rw [natOf_snoc, ih (u / 10) (by omega), digit_toNat (u % 10) (by omega)]; omega

theorem parseUint_digits : ∀ (l : List UInt8) (a : Nat), (∀ c ∈ l, isD c = true) → a ≤ 18446744073709551615 →
    Lib.parseUintM 18446744073709551615 a l = if natFrom a l ≤ 18446744073709551615 then .ok (natFrom a l) else .range
  | [], a, _, ha => by rw [Lib.parseUintM, natFrom_nil, if_pos ha]
  | c :: l, a, h, ha => by
    have hc := (isD_iff c).1 (h c (by simp))
    rw [Lib.parseUintM, if_pos hc, natFrom_cons]
    have hge := natFrom_ge l (10 * a + (c.toNat - 48))
    split
    · rw [if_neg (by omega)]
    · split
      · rw [if_neg (by omega)]
      · rw [show a * 10 + (c.toNat - 48) = 10 * a + (c.toNat - 48) by omega]
        exact parseUint_digits l _ (fun x hx => h x (by simp [hx])) (by omega)

/-- A sign or none, and digits. -/
def signed (neg : Bool) (l : List UInt8) : List UInt8 := if neg then 45 :: l else l
theorem parseInt_digits (neg : Bool) (l : List UInt8) (hne : l ≠ []) (hd : ∀ c ∈ l, isD c = true) :
    Lib.parseIntB 64 (signed neg l) = if natOf l ≤ 9223372036854775807 ∨ (neg = true ∧ natOf l = 9223372036854775808) then .ok (if neg then -(natOf l : Int) else natOf l) else .range := by
  have hU : Lib.parseUintB 64 l = if natOf l ≤ 18446744073709551615 then .ok (natOf l) else .range := by
    unfold Lib.parseUintB
    rw [if_neg hne]
    exact parseUint_digits l 0 hd (by omega)
  have p63 : (2 : Nat) ^ (64 - 1) = 9223372036854775808 := by decide
  cases neg with
  | true =>
    simp only [signed, if_true, Lib.parseIntB]
    have e45 : (45 : UInt8).toNat = 45 := rfl
    simp only [e45, or_true, if_true, hU]
    by_cases h1 : natOf l ≤ 18446744073709551615
    · simp only [h1, if_true, not_true_eq_false, false_and, if_false, true_and, p63]
      by_cases h2 : 9223372036854775808 < natOf l
      · rw [if_pos h2, if_neg (by omega)]
      · rw [if_neg h2, if_pos (by omega)]
    · simp only [h1, if_false]
      rw [if_neg (by omega)]
  | false =>
    cases l with
    | nil => exact absurd rfl hne
    | cons c r =>
      have hc := (isD_iff c).1 (hd c (by simp))
      simp only [signed, Bool.false_eq_true, if_false, Lib.parseIntB]
      rw [if_neg (by omega), hU]
      by_cases h1 : natOf (c :: r) ≤ 18446744073709551615
      · simp only [h1, if_true]
        have n45 : ¬ c.toNat = 45 := by omega
        simp only [n45, not_false_eq_true, true_and, p63, false_and, if_false, or_false]
        by_cases h2 : 9223372036854775808 ≤ natOf (c :: r)
        · rw [if_pos h2, if_neg (by omega)]
        · rw [if_neg h2, if_pos (by omega)]
      · simp only [h1, if_false]
        rw [if_neg (by omega)]

/-- What stands for a number: nothing that is empty, begins with a 0 that isn't all of it, or is -0. -/
def oddD (neg : Bool) (l : List UInt8) : Prop := l = [] ∨ (1 < l.length ∧ l.head? = some 48) ∨ (neg = true ∧ l = [48])
theorem itoa_signed (neg : Bool) (l : List UInt8) (hne : l ≠ []) (hd : ∀ c ∈ l, isD c = true) (ho : ¬ oddD neg l) : Lib.itoa (if neg then -(natOf l : Int) else natOf l) = signed neg l := by
  have hc : lead l ∨ l.length = 1 := by
    cases l with
    | nil => exact absurd rfl hne
    | cons c r =>
      by_cases h1 : r = []
      · exact .inr (by simp [h1])
      · refine .inl (fun x hx => ?_)
        simp at hx
        subst hx
        intro e
        exact ho (.inr (.inl ⟨by cases r with | nil => exact absurd rfl h1 | cons _ _ => simp, by
          have : c = 48 := UInt8.toNat_inj.1 (by rw [e]; rfl)
          simp [this]⟩))
  have hD := dec_natOf l hne hd hc
  cases neg with
  | false => simp only [Bool.false_eq_true, if_false, signed]; rw [Lib.itoa_nonneg, hD]
  | true =>
    have hp : 1 ≤ natOf l := by
      cases l with
      | nil => exact absurd rfl hne
      | cons c r =>
        have hcd := (isD_iff c).1 (hd c (by simp))
        by_cases h48 : c.toNat = 48
        · have ec : c = 48 := UInt8.toNat_inj.1 (by rw [h48]; rfl)
          exfalso
          cases r with
          | nil => exact ho (.inr (.inr ⟨rfl, by rw [ec]⟩))
          | cons d r => exact ho (.inr (.inl ⟨by simp, by simp [ec]⟩))
        · have := natOf_ge (l := r) (hd c (by simp)) h48
          have := Nat.one_le_pow r.length 10 (by omega)
          omega
    simp only [if_true, signed]; rw [Lib.itoa_neg _ hp, hD]
theorem itoa_odd (neg : Bool) (l : List UInt8) (hd : ∀ c ∈ l, isD c = true) (ho : oddD neg l) (v : Int) : Lib.itoa v ≠ signed neg l := by
  intro e
  have key : ∃ u, Lib.decDigits u = l ∧ (neg = true → 1 ≤ u) := by
    unfold Lib.itoa at e
    split at e
    · rename_i hv
      cases neg with
      | true => simp only [signed, if_true, List.cons.injEq, true_and] at e; exact ⟨_, e, fun _ => by omega⟩
      | false =>
        simp only [signed, Bool.false_eq_true, if_false] at e
        have := hd 45 (by rw [← e]; simp)
        exact absurd this (by decide)
    · rename_i hv
      cases neg with
      | true =>
        simp only [signed, if_true] at e
        have := dec_digits v.toNat 45 (by rw [e]; simp)
        exact absurd this (by decide)
      | false => simp only [signed, Bool.false_eq_true, if_false] at e; exact ⟨_, e, fun h => by cases h⟩
  obtain ⟨u, hu, hn⟩ := key
  rcases ho with h | ⟨h1, h2⟩ | ⟨h1, h2⟩
  · exact dec_ne u (by rw [hu, h])
  · by_cases hu0 : 1 ≤ u
    · exact dec_lead u hu0 48 (by rw [hu, h2]) rfl
    · have : u = 0 := by omega
      subst this
      rw [← hu] at h1
      rw [Lib.decDigits_one (by omega)] at h1
      simp at h1
  · exact dec_lead u (hn h1) 48 (by rw [hu, h2]; rfl) rfl

/-- The number of a sign and digits, as the document's own answer has it. -/
def refVal (neg : Bool) (l : List UInt8) : Option Int :=
  if l = [] ∨ 19 < l.length ∨ (1 < l.length ∧ l.head? = some 48) ∨ (neg = true ∧ l = [48]) then none
  else if 9223372036854775808 < natOf l ∨ (natOf l = 9223372036854775808 ∧ neg = false) then none
  else some (if neg then -(natOf l : Int) else natOf l)
theorem valOf_signed (neg : Bool) (l : List UInt8) (hd : ∀ c ∈ l, isD c = true) : valOf (signed neg l) = refVal neg l := by
  unfold refVal
  by_cases ho : oddD neg l
  · rw [if_pos (by rcases ho with h | h | h <;> simp [h])]
    unfold valOf
    split
    · rw [if_neg (itoa_odd neg l hd ho _)]
    · rfl
  · have hne : l ≠ [] := fun h => ho (.inl h)
    have h2 : ¬ (1 < l.length ∧ l.head? = some 48) := fun h => ho (.inr (.inl h))
    have h3 : ¬ (neg = true ∧ l = [48]) := fun h => ho (.inr (.inr h))
    have hv : valOf (signed neg l) = if natOf l ≤ 9223372036854775807 ∨ (neg = true ∧ natOf l = 9223372036854775808) then some (if neg then -(natOf l : Int) else natOf l) else none := by
      unfold valOf
      rw [parseInt_digits neg l hne hd]
      by_cases hb : natOf l ≤ 9223372036854775807 ∨ (neg = true ∧ natOf l = 9223372036854775808)
      · rw [if_pos hb, if_pos hb]
        simp only
        rw [if_pos (itoa_signed neg l hne hd ho)]
      · rw [if_neg hb, if_neg hb]
    rw [hv]
    by_cases h19 : 19 < l.length
    · have hbig : 10000000000000000000 ≤ natOf l := by
        cases l with
        | nil => exact absurd rfl hne
        | cons c r =>
          have h48 : c.toNat ≠ 48 := fun e => h2 ⟨by simp at h19 ⊢; omega, by
            have : c = 48 := UInt8.toNat_inj.1 (by rw [e]; rfl)
            simp [this]⟩
          have := natOf_ge (l := r) (hd c (by simp)) h48
          have hp : 10 ^ 19 ≤ 10 ^ r.length := Nat.pow_le_pow_right (by omega) (by simp at h19; omega)
          have : (10 : Nat) ^ 19 = 10000000000000000000 := by decide
          omega
      rw [if_neg (by omega), if_pos (.inr (.inl h19))]
    · rw [if_neg (c := l = [] ∨ 19 < l.length ∨ _ ∨ _) (by simp only [not_or]; exact ⟨hne, h19, h2, h3⟩)]
      have hC : (natOf l ≤ 9223372036854775807 ∨ (neg = true ∧ natOf l = 9223372036854775808)) ↔ ¬ (9223372036854775808 < natOf l ∨ (natOf l = 9223372036854775808 ∧ neg = false)) := by
        cases neg <;> simp <;> omega
      by_cases hD : 9223372036854775808 < natOf l ∨ (natOf l = 9223372036854775808 ∧ neg = false)
      · rw [if_neg (fun h => hC.1 h hD), if_pos hD]
      · rw [if_pos (hC.2 hD), if_neg hD]
end Go.Proofs.YtgnkkcnmepafpaaGreatDoor
