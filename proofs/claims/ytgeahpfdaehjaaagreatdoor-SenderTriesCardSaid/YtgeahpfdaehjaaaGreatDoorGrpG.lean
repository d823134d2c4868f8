/-
  Layer 4 (line): the reader's method event: all of a line.
  Layer 4: the document's own Same, at two events that are alike.
  Layer 4: whether an event may be, the program's and the document's own; and whether it is small enough to be gone through.
  Layer 4 (line), what is of no program: the numbers that are written in the one way, reckoned digit by digit.
  Layer 4 (line): line.Parse: the event of a text, or where it can't go on.
  Layer 4: the document's own value: the number of a sign and digits.
  Layer 4: the document's own Parse: what stands behind its calls.
-/
import Derived.Test.YtgeahpfdaehjaaaGreatDoorGrpF
import Derived.Deep.RegionWith
import Derived.Lib.ItoaMem
import Derived.RegionTactic
import Derived.Deep.RegionLaw
import Derived.Laws.DeepStrings4
namespace Go.Proofs.YtgeahpfdaehjaaaGreatDoor
open Go.ChangeShapes Go.WideShapes Go.ChangeAt Go.RowKit
set_option linter.unusedVariables false

/-- An event in a block of its own. -/
def EvB (w : World) (g : Nat) (n : ByteArray) (A : Option Addr) (l c : Nat) (k v t : Int) : Prop :=
  w.heap[g]? = some (.cells #[.string n, .slice A l c, .int .i64 k, .int .i64 v, .int .i64 t] 154 (0, 0))
section
variable {w w' : World} {g b : Nat} {n : ByteArray} {A : Option Addr} {l c : Nat} {k v t : Int}
theorem EvB.c0 (h : EvB w g n A l c k v t) : w.cell? ⟨g, 0, none⟩ = some (.string n) := cell_of_block h
theorem EvB.c1 (h : EvB w g n A l c k v t) : w.cell? ⟨g, 1, none⟩ = some (.slice A l c) := cell_of_block h
theorem EvB.c2 (h : EvB w g n A l c k v t) : w.cell? ⟨g, 2, none⟩ = some (.int .i64 k) := cell_of_block h
theorem EvB.c3 (h : EvB w g n A l c k v t) : w.cell? ⟨g, 3, none⟩ = some (.int .i64 v) := cell_of_block h
theorem EvB.c4 (h : EvB w g n A l c k v t) : w.cell? ⟨g, 4, none⟩ = some (.int .i64 t) := cell_of_block h
theorem EvB.f (h : EvB w g n A l c k v t) (o : Nat) : w.frozen? ⟨g, o, none⟩ = false := frozen_of_block h
theorem EvB.grown (h : EvB w g n A l c k v t) (hg : w.grownBy w' (some b)) (hb : b ≠ g) : EvB w' g n A l c k v t := by
  unfold EvB; rw [hg.block g (lt_of_block h) (fun e => hb (Option.some.inj e).symm)]; exact h
theorem EvB.set0 (h : EvB w g n A l c k v t) (x : ByteArray) : EvB (w.setCell ⟨g, 0, none⟩ (.string x)) g x A l c k v t := heap_set_same h
theorem EvB.set1 (h : EvB w g n A l c k v t) (A' : Option Addr) (l' c' : Nat) : EvB (w.setCell ⟨g, 1, none⟩ (.slice A' l' c')) g n A' l' c' k v t := heap_set_same h
theorem EvB.set2 (h : EvB w g n A l c k v t) (x : Int) : EvB (w.setCell ⟨g, 2, none⟩ (.int .i64 x)) g n A l c x v t := heap_set_same h
theorem EvB.set3 (h : EvB w g n A l c k v t) (x : Int) : EvB (w.setCell ⟨g, 3, none⟩ (.int .i64 x)) g n A l c k x t := heap_set_same h
theorem EvB.set4 (h : EvB w g n A l c k v t) (x : Int) : EvB (w.setCell ⟨g, 4, none⟩ (.int .i64 x)) g n A l c k v x := heap_set_same h
end

def evVal (n : ByteArray) (A : Option Addr) (l c : Nat) (k v t : Int) : Value := .agg #[.string n, .slice A l c, .int .i64 k, .int .i64 v, .int .i64 t]
def EvFail (w : World) (b : Nat) (s : ByteArray) (p : Nat) (e : Ending) (w' : World) : Prop :=
  ∃ n A l c k v t, e = .returned (.tuple #[evVal n A l c k v t, .bool false]) ∧ Mv w b s p w'
def EvGood (w : World) (b : Nat) (s : ByteArray) (ev : Ev) (e : Ending) (w' : World) : Prop :=
  ∃ A c p, e = .returned (.tuple #[evVal ev.name A ev.tags.length c ev.kind ev.value ev.time, .bool true]) ∧ Mv w b s p w' ∧ OwnT w' w.heap.size A c ev.tags
def EvPost (w : World) (b : Nat) (s : ByteArray) (r : Res) (e : Ending) (w' : World) : Prop :=
  match r with
  | .bad p => EvFail w b s p e w'
  | .good ev => EvGood w b s ev e w'

/-- Where the reading of an event stands: the reader at k, the event's block g, all of it since w. -/
structure At (w : World) (b : Nat) (s : ByteArray) (g k : Nat) (n : ByteArray) (A : Option Addr) (l c : Nat) (kd v t : Int) (ts : Tags) (w1 : World) : Prop where
  mv : Mv w b s k w1
  ev : EvB w1 g n A l c kd v t
  own : ts.length = l ∧ OwnT w1 (g + 1) A c ts
  laid : Laid w1
section
variable {w w1 w2 : World} {b g k j : Nat} {s : ByteArray} {n : ByteArray} {A : Option Addr} {l c : Nat} {kd v t : Int} {ts : Tags}
theorem At.step (h : At w b s g k n A l c kd v t ts w1) (m : Mv w1 b s j w2) (hb7 : 6 ≤ b) (hbg : b < g) : At w b s g j n A l c kd v t ts w2 where
  mv := h.mv.trans m
  ev := h.ev.grown m.grown (Nat.ne_of_lt hbg)
  own := ⟨h.own.1, h.own.2.kept m.grown (by omega)⟩
  laid := h.laid.mv m hb7
theorem OwnT.set {w : World} {base : Nat} {A : Option Addr} {cap : Nat} {ts : Tags} (h : OwnT w base A cap ts) (a : Addr) (v : Value) (ha : a.block < base) : OwnT (w.setCell a v) base A cap ts :=
  h.kept (grown_set (grown_refl _ _) a v (Or.inl rfl)) ha
theorem At.put (h : At w b s g k n A l c kd v t ts w1) (o : Nat) (x : Value) (hb7 : 6 ≤ b) (hbg : b < g) (hg : w.heap.size ≤ g) {n' : ByteArray} {A' : Option Addr} {l' c' : Nat} {kd' v' t' : Int} {ts' : Tags}
    (he : EvB (w1.setCell ⟨g, o, none⟩ x) g n' A' l' c' kd' v' t') (ho : ts'.length = l' ∧ OwnT w1 (g + 1) A' c' ts') : At w b s g k n' A' l' c' kd' v' t' ts' (w1.setCell ⟨g, o, none⟩ x) where
  mv := ⟨grown_set h.mv.grown _ _ (Or.inr hg), h.mv.rd.other _ _ (Nat.ne_of_lt hbg)⟩
  ev := he
  own := ⟨ho.1, ho.2.set _ _ (Nat.lt_succ_self g)⟩
  laid := h.laid.set _ _ (by show 6 ≤ g; omega)
end

theorem Mv.put5 {w w1 : World} {b k g : Nat} {s : ByteArray} (h : Mv w b s k w1) (hb : b < w.heap.size) (hg : w.heap.size ≤ g) (v0 v1 v2 v3 v4 : Value) :
    Mv w b s k (((((w1.setCell ⟨g, 0, none⟩ v0).setCell ⟨g, 1, none⟩ v1).setCell ⟨g, 2, none⟩ v2).setCell ⟨g, 3, none⟩ v3).setCell ⟨g, 4, none⟩ v4) :=
  ((((h.put _ _ hb hg).put _ _ hb hg).put _ _ hb hg).put _ _ hb hg).put _ _ hb hg

theorem OwnT.drew {w : World} {base : Nat} {A : Option Addr} {cap : Nat} {ts : Tags} (h : OwnT w base A cap ts) (n : Nat) : OwnT (w.drewN n) base A cap ts := h
theorem OwnT.set5 {w : World} {base g : Nat} {A : Option Addr} {cap : Nat} {ts : Tags} (h : OwnT w base A cap ts) (hg : g < base) (v0 v1 v2 v3 v4 : Value) :
    OwnT (((((w.setCell ⟨g, 0, none⟩ v0).setCell ⟨g, 1, none⟩ v1).setCell ⟨g, 2, none⟩ v2).setCell ⟨g, 3, none⟩ v3).setCell ⟨g, 4, none⟩ v4) base A cap ts :=
  ((((h.set _ _ hg).set _ _ hg).set _ _ hg).set _ _ hg).set _ _ hg

set_option maxHeartbeats 4000000 in
theorem readEvent (w : World) (b : Nat) (s : ByteArray) (h : Rd w b s 0) (hL : Laid w) (hb7 : 6 ≤ b) (hs : s.size ≤ 300) :
    Calls Tryz.prog 154 #[.pointer (some ⟨b, 0, none⟩)] w (EvPost w b s (parseF s)) := by
  have hbw := h.lt
  have A0 : At w b s w.heap.size 0 ⟨#[]⟩ none 0 0 0 0 0 [] (w.alloc (.cells #[.string ⟨#[]⟩, .slice none 0 0, .int .i64 0, .int .i64 0, .int .i64 0] 154)) :=
    ⟨⟨World.grownBy_alloc _ _ _, h.alloc _⟩, heap_alloc_new w _, ⟨rfl, OwnT.nil _ _⟩, hL.alloc _⟩
  have HA0 := Lib.hid A0
  clear A0 h hL
  go_enter Tryz.func154, Tryz.ntmps154
  go_wp2_with fail
  rcases hw0 : wordAt s 0 with _ | a
  · have HX : Hid (parseF s = .bad 0) := Lib.hid (by unfold parseF; rw [hw0])
    have HW := Lib.hid hw0
    clear hw0
    refine (wordNo _ b s 0 HA0.out.mv.rd hs (Nat.zero_le _) HW.out).mono ?_
    rintro e w1 ⟨rfl, m1⟩
    have HA1 := Lib.hid (HA0.out.step m1 hb7 hbw)
    clear m1
    have c0 := HA1.out.ev.c0
    have c1 := HA1.out.ev.c1
    have c2 := HA1.out.ev.c2
    have c3 := HA1.out.ev.c3
    have c4 := HA1.out.ev.c4
    have f0 := HA1.out.ev.f 0
    have f1 := HA1.out.ev.f 1
    have f2 := HA1.out.ev.f 2
    have f3 := HA1.out.ev.f 3
    have f4 := HA1.out.ev.f 4
    go_wp2_with fail
    refine bodyPost_ret (v := .tuple #[evVal ⟨#[]⟩ none 0 0 0 0 0, .bool false]) (by simp [results, Tryz.results154, go_sem, evVal, c0, c1, c2, c3, c4]) rfl ?_
    rw [HX.out]
    exact ⟨_, _, _, _, _, _, _, rfl, (Mv.put (Mv.put (Mv.put (Mv.put (Mv.put (Mv.put HA1.out.mv _ _ hbw (Nat.le_refl _)) _ _ hbw (Nat.le_refl _)) _ _ hbw (Nat.le_refl _)) _ _ hbw (Nat.le_refl _)) _ _ hbw (Nat.le_refl _)) _ _ hbw (Nat.le_refl _))⟩
  have hx0 : parseF s = parseTags s a (tagsFrom s 6 a []) := by unfold parseF; rw [hw0]
  have has := (wordAt_le (Nat.zero_le _) hw0).2
  have HX0 := Lib.hid hx0
  have HW := Lib.hid hw0
  clear hw0 hx0
  refine (wordYes _ b s 0 a HA0.out.mv.rd hs (Nat.zero_le _) HW.out).mono ?_
  rintro e w1 ⟨rfl, m1⟩
  have HA1 := Lib.hid (HA0.out.step m1 hb7 hbw)
  clear m1
  have c0 := HA1.out.ev.c0
  have c1 := HA1.out.ev.c1
  have c2 := HA1.out.ev.c2
  have c3 := HA1.out.ev.c3
  have c4 := HA1.out.ev.c4
  have f0 := HA1.out.ev.f 0
  have f1 := HA1.out.ev.f 1
  have f2 := HA1.out.ev.f 2
  have f3 := HA1.out.ev.f 3
  have f4 := HA1.out.ev.f 4
  go_wp2_with fail
  clear c0 c1 c2 c3 c4 f0 f1 f2 f3 f4
  have HA2 := Lib.hid (HA1.out.put 0 (.string (s.extract 0 a)) hb7 hbw (Nat.le_refl _) (HA1.out.ev.set0 (s.extract 0 a)) HA1.out.own)
  clear HA1
  have CT := Lib.hid (readTags _ b s a HA2.out.mv.rd hs has)
  rcases htr : tagsFrom s 6 a [] with p | ⟨kb, ts⟩
  · have HX : Hid (parseF s = .bad p) := Lib.hid (by rw [HX0.out, htr]; rfl)
    rw [htr] at CT
    clear htr HX0
    refine CT.out.mono ?_
    rintro e w3 ⟨rfl, m3⟩
    have HA3 := Lib.hid (HA2.out.step m3 hb7 hbw)
    clear m3 CT
    have c0 := HA3.out.ev.c0
    have c1 := HA3.out.ev.c1
    have c2 := HA3.out.ev.c2
    have c3 := HA3.out.ev.c3
    have c4 := HA3.out.ev.c4
    have f0 := HA3.out.ev.f 0
    have f1 := HA3.out.ev.f 1
    have f2 := HA3.out.ev.f 2
    have f3 := HA3.out.ev.f 3
    have f4 := HA3.out.ev.f 4
    go_wp2_with fail
    refine bodyPost_ret (v := .tuple #[evVal (s.extract 0 a) none 0 0 0 0 0, .bool false]) (by simp [results, Tryz.results154, go_sem, evVal, c0, c1, c2, c3, c4]) rfl ?_
    rw [HX.out]
    exact ⟨_, _, _, _, _, _, _, rfl, (Mv.put (Mv.put (Mv.put (Mv.put (Mv.put (Mv.put HA3.out.mv _ _ hbw (Nat.le_refl _)) _ _ hbw (Nat.le_refl _)) _ _ hbw (Nat.le_refl _)) _ _ hbw (Nat.le_refl _)) _ _ hbw (Nat.le_refl _)) _ _ hbw (Nat.le_refl _))⟩
  rw [htr] at CT HX0
  clear htr
  by_cases h32 : chr s kb = 32
  case neg =>
    have HX : Hid (parseF s = .bad kb) := Lib.hid (by rw [HX0.out]; simp only [parseTags, parseKind, h32, if_false])
    refine (CT.out.mono (fun e w' hp => by unfold TagsPost at hp; simp only [h32, if_false] at hp; exact hp : ∀ e w', _ → TagsBad _ b s kb e w')).mono ?_
    clear h32
    rintro e w3 ⟨rfl, m3⟩
    have HA3 := Lib.hid (HA2.out.step m3 hb7 hbw)
    clear m3 CT
    have c0 := HA3.out.ev.c0
    have c1 := HA3.out.ev.c1
    have c2 := HA3.out.ev.c2
    have c3 := HA3.out.ev.c3
    have c4 := HA3.out.ev.c4
    have f0 := HA3.out.ev.f 0
    have f1 := HA3.out.ev.f 1
    have f2 := HA3.out.ev.f 2
    have f3 := HA3.out.ev.f 3
    have f4 := HA3.out.ev.f 4
    go_wp2_with fail
    refine bodyPost_ret (v := .tuple #[evVal (s.extract 0 a) none 0 0 0 0 0, .bool false]) (by simp [results, Tryz.results154, go_sem, evVal, c0, c1, c2, c3, c4]) rfl ?_
    rw [HX.out]
    exact ⟨_, _, _, _, _, _, _, rfl, (Mv.put (Mv.put (Mv.put (Mv.put (Mv.put (Mv.put HA3.out.mv _ _ hbw (Nat.le_refl _)) _ _ hbw (Nat.le_refl _)) _ _ hbw (Nat.le_refl _)) _ _ hbw (Nat.le_refl _)) _ _ hbw (Nat.le_refl _)) _ _ hbw (Nat.le_refl _))⟩
  have hks : kb < s.size := chr_lt_size (by omega)
  refine (CT.out.mono (fun e w' hp => by unfold TagsPost at hp; simp only [h32, if_true] at hp; exact hp : ∀ e w', _ → TagsOk _ b s kb ts e w')).mono ?_
  rintro e w3 ⟨TA, tc, rfl, m3, o3⟩
  have HA3 := Lib.hid (HA2.out.step m3 hb7 hbw)
  have HO3 := Lib.hid (show OwnT w3 (w.heap.size + 1) TA tc ts from o3.mono (by have := HA2.out.mv.grown.size; have := lt_of_block HA2.out.ev; omega))
  have HX1 : Hid (parseF s = parseKind s a ts kb) := Lib.hid HX0.out
  have H32 := Lib.hid h32
  clear m3 o3 CT HX0 h32
  have c0 := HA3.out.ev.c0
  have c1 := HA3.out.ev.c1
  have c2 := HA3.out.ev.c2
  have c3 := HA3.out.ev.c3
  have c4 := HA3.out.ev.c4
  have f0 := HA3.out.ev.f 0
  have f1 := HA3.out.ev.f 1
  have f2 := HA3.out.ev.f 2
  have f3 := HA3.out.ev.f 3
  have f4 := HA3.out.ev.f 4
  go_wp2_with fail
  clear c0 c1 c2 c3 c4 f0 f1 f2 f3 f4
  have HA4 := Lib.hid (HA3.out.put 1 (.slice TA ts.length tc) hb7 hbw (Nat.le_refl _) (HA3.out.ev.set1 TA ts.length tc) ⟨rfl, HO3.out⟩)
  clear HA3 HO3
  refine (passYes _ b s kb 32 HA4.out.mv.rd hs hks (by rw [H32.out]; rfl)).mono ?_
  rintro e w5 ⟨rfl, m5⟩
  have HA5 := Lib.hid (HA4.out.step m5 hb7 hbw)
  clear m5
  go_wp2_with fail
  rcases hkd : kindOf (chr s (kb + 1)) with _ | kd
  · have HX : Hid (parseF s = .bad (kb + 1)) := Lib.hid (by rw [HX1.out, parseKind, if_pos H32.out, hkd])
    have HK := Lib.hid hkd
    clear hkd
    refine (kindNo _ b s (kb + 1) HA5.out.mv.rd hs (by omega) HK.out).mono ?_
    rintro e w6 ⟨rfl, m6⟩
    have HA6 := Lib.hid (HA5.out.step m6 hb7 hbw)
    clear m6
    have c0 := HA6.out.ev.c0
    have c1 := HA6.out.ev.c1
    have c2 := HA6.out.ev.c2
    have c3 := HA6.out.ev.c3
    have c4 := HA6.out.ev.c4
    have f0 := HA6.out.ev.f 0
    have f1 := HA6.out.ev.f 1
    have f2 := HA6.out.ev.f 2
    have f3 := HA6.out.ev.f 3
    have f4 := HA6.out.ev.f 4
    go_wp2_with fail
    refine bodyPost_ret (v := .tuple #[evVal (s.extract 0 a) TA ts.length tc 0 0 0, .bool false]) (by simp [results, Tryz.results154, go_sem, evVal, c0, c1, c2, c3, c4]) rfl ?_
    rw [HX.out]
    exact ⟨_, _, _, _, _, _, _, rfl, (Mv.put (Mv.put (Mv.put (Mv.put (Mv.put (Mv.put HA6.out.mv _ _ hbw (Nat.le_refl _)) _ _ hbw (Nat.le_refl _)) _ _ hbw (Nat.le_refl _)) _ _ hbw (Nat.le_refl _)) _ _ hbw (Nat.le_refl _)) _ _ hbw (Nat.le_refl _))⟩
  have HX2 : Hid (parseF s = parseNum s a ts kd (kb + 1 + 1)) := Lib.hid (by rw [HX1.out, parseKind, if_pos H32.out, hkd])
  have hks2 : kb + 1 < s.size := chr_lt_size (fun h0 => by rw [h0] at hkd; cases hkd)
  have HK := Lib.hid hkd
  clear hkd HX1
  refine (kindYes _ b s (kb + 1) kd HA5.out.mv.rd hs hks2 HK.out).mono ?_
  rintro e w6 ⟨rfl, m6⟩
  have HA6 := Lib.hid (HA5.out.step m6 hb7 hbw)
  clear m6
  have c0 := HA6.out.ev.c0
  have c1 := HA6.out.ev.c1
  have c2 := HA6.out.ev.c2
  have c3 := HA6.out.ev.c3
  have c4 := HA6.out.ev.c4
  have f0 := HA6.out.ev.f 0
  have f1 := HA6.out.ev.f 1
  have f2 := HA6.out.ev.f 2
  have f3 := HA6.out.ev.f 3
  have f4 := HA6.out.ev.f 4
  go_wp2_with fail
  clear c0 c1 c2 c3 c4 f0 f1 f2 f3 f4
  have HA7 := Lib.hid (HA6.out.put 2 (.int .i64 kd) hb7 hbw (Nat.le_refl _) (HA6.out.ev.set2 kd) HA6.out.own)
  clear HA6
  by_cases h33 : chr s (kb + 1 + 1) = 32
  case neg =>
    have HX : Hid (parseF s = .bad (kb + 1 + 1)) := Lib.hid (by rw [HX2.out, parseNum, if_neg h33])
    have H33 := Lib.hid h33
    clear h33
    refine (passNo _ b s (kb + 1 + 1) 32 HA7.out.mv.rd hs (by omega) (by intro h; exact H33.out (by omega))).mono ?_
    rintro e w8 ⟨rfl, m8⟩
    have HA8 := Lib.hid (HA7.out.step m8 hb7 hbw)
    clear m8
    have c0 := HA8.out.ev.c0
    have c1 := HA8.out.ev.c1
    have c2 := HA8.out.ev.c2
    have c3 := HA8.out.ev.c3
    have c4 := HA8.out.ev.c4
    have f0 := HA8.out.ev.f 0
    have f1 := HA8.out.ev.f 1
    have f2 := HA8.out.ev.f 2
    have f3 := HA8.out.ev.f 3
    have f4 := HA8.out.ev.f 4
    go_wp2_with fail
    refine bodyPost_ret (v := .tuple #[evVal (s.extract 0 a) TA ts.length tc kd 0 0, .bool false]) (by simp [results, Tryz.results154, go_sem, evVal, c0, c1, c2, c3, c4]) rfl ?_
    rw [HX.out]
    exact ⟨_, _, _, _, _, _, _, rfl, (Mv.put (Mv.put (Mv.put (Mv.put (Mv.put HA8.out.mv _ _ hbw (Nat.le_refl _)) _ _ hbw (Nat.le_refl _)) _ _ hbw (Nat.le_refl _)) _ _ hbw (Nat.le_refl _)) _ _ hbw (Nat.le_refl _))⟩
  have hks3 : kb + 1 + 1 < s.size := chr_lt_size (by omega)
  have H33 := Lib.hid h33
  clear h33
  refine (passYes _ b s (kb + 1 + 1) 32 HA7.out.mv.rd hs hks3 (by rw [H33.out]; rfl)).mono ?_
  rintro e w8 ⟨rfl, m8⟩
  have HA8 := Lib.hid (HA7.out.step m8 hb7 hbw)
  clear m8
  go_wp2_with fail
  have CN := Lib.hid (readNum _ b s (kb + 1 + 1 + 1) (-9223372036854775808) 9223372036854775807 HA8.out.mv.rd HA8.out.laid hb7 hs (by omega) (by omega) (by omega) (by omega) (by omega))
  rcases hn1 : numAt s (kb + 1 + 1 + 1) (-9223372036854775808) 9223372036854775807 with _ | v
  · have HX : Hid (parseF s = .bad (kb + 1 + 1 + 1)) := Lib.hid (by rw [HX2.out, parseNum, if_pos H33.out, hn1])
    rw [hn1] at CN
    clear hn1
    refine CN.out.mono ?_
    rintro e w9 ⟨rfl, m9⟩
    have HA9 := Lib.hid (HA8.out.step m9 hb7 hbw)
    clear m9 CN
    have c0 := HA9.out.ev.c0
    have c1 := HA9.out.ev.c1
    have c2 := HA9.out.ev.c2
    have c3 := HA9.out.ev.c3
    have c4 := HA9.out.ev.c4
    have f0 := HA9.out.ev.f 0
    have f1 := HA9.out.ev.f 1
    have f2 := HA9.out.ev.f 2
    have f3 := HA9.out.ev.f 3
    have f4 := HA9.out.ev.f 4
    go_wp2_with fail
    refine bodyPost_ret (v := .tuple #[evVal (s.extract 0 a) TA ts.length tc kd 0 0, .bool false]) (by simp [results, Tryz.results154, go_sem, evVal, c0, c1, c2, c3, c4]) rfl ?_
    rw [HX.out]
    exact ⟨_, _, _, _, _, _, _, rfl, (Mv.put (Mv.put (Mv.put (Mv.put (Mv.put (Mv.put HA9.out.mv _ _ hbw (Nat.le_refl _)) _ _ hbw (Nat.le_refl _)) _ _ hbw (Nat.le_refl _)) _ _ hbw (Nat.le_refl _)) _ _ hbw (Nat.le_refl _)) _ _ hbw (Nat.le_refl _))⟩
  have HX3 : Hid (parseF s = parseEnd s a ts kd v (numEnd s (kb + 1 + 1 + 1))) := Lib.hid (by rw [HX2.out, parseNum, if_pos H33.out, hn1])
  have hle := numEnd_le (s := s) (k := kb + 1 + 1 + 1) (by omega)
  rw [hn1] at CN
  clear hn1 HX2
  generalize numEnd s (kb + 1 + 1 + 1) = kc at CN HX3 hle
  obtain ⟨hle0, hle1⟩ := hle
  refine CN.out.mono ?_
  rintro e w9 ⟨rfl, m9⟩
  have HA9 := Lib.hid (HA8.out.step m9 hb7 hbw)
  clear m9 CN
  have c0 := HA9.out.ev.c0
  have c1 := HA9.out.ev.c1
  have c2 := HA9.out.ev.c2
  have c3 := HA9.out.ev.c3
  have c4 := HA9.out.ev.c4
  have f0 := HA9.out.ev.f 0
  have f1 := HA9.out.ev.f 1
  have f2 := HA9.out.ev.f 2
  have f3 := HA9.out.ev.f 3
  have f4 := HA9.out.ev.f 4
  go_wp2_with fail
  clear c0 c1 c2 c3 c4 f0 f1 f2 f3 f4
  have HA10 := Lib.hid (HA9.out.put 3 (.int .i64 v) hb7 hbw (Nat.le_refl _) (HA9.out.ev.set3 v) HA9.out.own)
  clear HA9
  by_cases h34 : chr s kc = 32
  case neg =>
    have HX : Hid (parseF s = .bad kc) := Lib.hid (by rw [HX3.out, parseEnd, if_neg h34])
    have H34 := Lib.hid h34
    clear h34
    refine (passNo _ b s kc 32 HA10.out.mv.rd hs hle1 (by intro h; exact H34.out (by omega))).mono ?_
    rintro e w11 ⟨rfl, m11⟩
    have HA11 := Lib.hid (HA10.out.step m11 hb7 hbw)
    clear m11
    have c0 := HA11.out.ev.c0
    have c1 := HA11.out.ev.c1
    have c2 := HA11.out.ev.c2
    have c3 := HA11.out.ev.c3
    have c4 := HA11.out.ev.c4
    have f0 := HA11.out.ev.f 0
    have f1 := HA11.out.ev.f 1
    have f2 := HA11.out.ev.f 2
    have f3 := HA11.out.ev.f 3
    have f4 := HA11.out.ev.f 4
    go_wp2_with fail
    refine bodyPost_ret (v := .tuple #[evVal (s.extract 0 a) TA ts.length tc kd v 0, .bool false]) (by simp [results, Tryz.results154, go_sem, evVal, c0, c1, c2, c3, c4]) rfl ?_
    rw [HX.out]
    exact ⟨_, _, _, _, _, _, _, rfl, (Mv.put (Mv.put (Mv.put (Mv.put (Mv.put HA11.out.mv _ _ hbw (Nat.le_refl _)) _ _ hbw (Nat.le_refl _)) _ _ hbw (Nat.le_refl _)) _ _ hbw (Nat.le_refl _)) _ _ hbw (Nat.le_refl _))⟩
  have hks4 : kc < s.size := chr_lt_size (by omega)
  have H34 := Lib.hid h34
  clear h34
  refine (passYes _ b s kc 32 HA10.out.mv.rd hs hks4 (by rw [H34.out]; rfl)).mono ?_
  rintro e w11 ⟨rfl, m11⟩
  have HA11 := Lib.hid (HA10.out.step m11 hb7 hbw)
  clear m11
  go_wp2_with fail
  have CM := Lib.hid (readNum _ b s (kc + 1) 0 1099511627776 HA11.out.mv.rd HA11.out.laid hb7 hs (by omega) (by omega) (by omega) (by omega) (by omega))
  rcases hn2 : numAt s (kc + 1) 0 1099511627776 with _ | tm
  · have HX : Hid (parseF s = .bad (kc + 1)) := Lib.hid (by rw [HX3.out, parseEnd, if_pos H34.out, hn2])
    rw [hn2] at CM
    clear hn2
    refine CM.out.mono ?_
    rintro e w12 ⟨rfl, m12⟩
    have HA12 := Lib.hid (HA11.out.step m12 hb7 hbw)
    clear m12 CM
    have c0 := HA12.out.ev.c0
    have c1 := HA12.out.ev.c1
    have c2 := HA12.out.ev.c2
    have c3 := HA12.out.ev.c3
    have c4 := HA12.out.ev.c4
    have f0 := HA12.out.ev.f 0
    have f1 := HA12.out.ev.f 1
    have f2 := HA12.out.ev.f 2
    have f3 := HA12.out.ev.f 3
    have f4 := HA12.out.ev.f 4
    go_wp2_with fail
    clear c0 c1 c2 c3 c4 f0 f1 f2 f3 f4
    have hA := HA12.out.put 4 (.int .i64 0) hb7 hbw (Nat.le_refl _) (HA12.out.ev.set4 0) HA12.out.own
    generalize w12.setCell ⟨w.heap.size, 4, none⟩ (.int .i64 0) = w13 at hA ⊢
    have HA13 := Lib.hid hA
    clear hA HA12
    have c0 := HA13.out.ev.c0
    have c1 := HA13.out.ev.c1
    have c2 := HA13.out.ev.c2
    have c3 := HA13.out.ev.c3
    have c4 := HA13.out.ev.c4
    have f0 := HA13.out.ev.f 0
    have f1 := HA13.out.ev.f 1
    have f2 := HA13.out.ev.f 2
    have f3 := HA13.out.ev.f 3
    have f4 := HA13.out.ev.f 4
    go_region
    all_goals go_wp2_with fail
    all_goals
      refine bodyPost_ret (v := .tuple #[evVal (s.extract 0 a) TA ts.length tc kd v 0, .bool false]) (by simp [results, Tryz.results154, go_sem, evVal, c0, c1, c2, c3, c4]) rfl ?_
      rw [HX.out]
      exact ⟨_, _, _, _, _, _, _, rfl, ((Mv.put (Mv.put (Mv.put (Mv.put (Mv.put HA13.out.mv _ _ hbw (Nat.le_refl _)) _ _ hbw (Nat.le_refl _)) _ _ hbw (Nat.le_refl _)) _ _ hbw (Nat.le_refl _)) _ _ hbw (Nat.le_refl _))).drew1⟩
  have HX4 : Hid (parseF s = if numEnd s (kc + 1) < s.size then .bad (numEnd s (kc + 1)) else .good ⟨s.extract 0 a, ts, kd, v, tm⟩) := Lib.hid (by rw [HX3.out, parseEnd, if_pos H34.out, hn2])
  have hlf := numEnd_le (s := s) (k := kc + 1) (by omega)
  rw [hn2] at CM
  clear hn2 HX3
  generalize numEnd s (kc + 1) = ke at CM HX4 hlf
  obtain ⟨hlf0, hlf1⟩ := hlf
  refine CM.out.mono ?_
  rintro e w12 ⟨rfl, m12⟩
  have HA12 := Lib.hid (HA11.out.step m12 hb7 hbw)
  clear m12 CM
  have c0 := HA12.out.ev.c0
  have c1 := HA12.out.ev.c1
  have c2 := HA12.out.ev.c2
  have c3 := HA12.out.ev.c3
  have c4 := HA12.out.ev.c4
  have f0 := HA12.out.ev.f 0
  have f1 := HA12.out.ev.f 1
  have f2 := HA12.out.ev.f 2
  have f3 := HA12.out.ev.f 3
  have f4 := HA12.out.ev.f 4
  go_wp2_with fail
  clear c0 c1 c2 c3 c4 f0 f1 f2 f3 f4
  have hA := HA12.out.put 4 (.int .i64 tm) hb7 hbw (Nat.le_refl _) (HA12.out.ev.set4 tm) HA12.out.own
  generalize w12.setCell ⟨w.heap.size, 4, none⟩ (.int .i64 tm) = w13 at hA ⊢
  have HA13 := Lib.hid hA
  clear hA HA12 HA11 HA10 HA8 HA7 HA5 HA4 HA2 HA0
  have c0 := HA13.out.ev.c0
  have c1 := HA13.out.ev.c1
  have c2 := HA13.out.ev.c2
  have c3 := HA13.out.ev.c3
  have c4 := HA13.out.ev.c4
  have f0 := HA13.out.ev.f 0
  have f1 := HA13.out.ev.f 1
  have f2 := HA13.out.ev.f 2
  have f3 := HA13.out.ev.f 3
  have f4 := HA13.out.ev.f 4
  have R0 := Lib.hid (HA13.out.mv.drew1.rd)
  have R5 := Lib.hid ((HA13.out.mv.put5 hbw (Nat.le_refl _) (.string (s.extract 0 a)) (.slice TA ts.length tc) (.int .i64 kd) (.int .i64 v) (.int .i64 tm)).drew1.rd)
  by_cases hend : ke = s.size
  · have HX : Hid (parseF s = .good ⟨s.extract 0 a, ts, kd, v, tm⟩) := Lib.hid (by rw [HX4.out, if_neg (by omega)])
    have ed : decide (ke = s.size) = true := decide_eq_true hend
    clear hend HX4
    go_region_with (go_at_call 161; refine (readEnds _ b s ke ?_ hs hlf1).mono ?_; (first | exact R0.out | exact R5.out); rw [ed]; rintro e w' ⟨rfl, n, rfl⟩)
    all_goals go_wp2_with fail
    all_goals
      refine bodyPost_ret (v := .tuple #[evVal (s.extract 0 a) TA ts.length tc kd v tm, .bool true]) (by simp [results, Tryz.results154, go_sem, evVal, c0, c1, c2, c3, c4]) rfl ?_
      rw [HX.out]
      exact ⟨TA, tc, ke, rfl, (HA13.out.mv.drew _).put5 hbw (Nat.le_refl _) _ _ _ _ _, (OwnT.set5 (HA13.out.own.2.drew _) (Nat.lt_succ_self _) _ _ _ _ _).mono (Nat.le_succ _)⟩
  · have HX : Hid (parseF s = .bad ke) := Lib.hid (by rw [HX4.out, if_pos (by omega)])
    have ed : decide (ke = s.size) = false := decide_eq_false hend
    clear hend HX4
    go_region_with (go_at_call 161; refine (readEnds _ b s ke ?_ hs hlf1).mono ?_; (first | exact R0.out | exact R5.out); rw [ed]; rintro e w' ⟨rfl, n, rfl⟩)
    all_goals go_wp2_with fail
    all_goals
      refine bodyPost_ret (v := .tuple #[evVal (s.extract 0 a) TA ts.length tc kd v tm, .bool false]) (by simp [results, Tryz.results154, go_sem, evVal, c0, c1, c2, c3, c4]) rfl ?_
      rw [HX.out]
      exact ⟨_, _, _, _, _, _, _, rfl, (HA13.out.mv.drew _).put5 hbw (Nat.le_refl _) _ _ _ _ _⟩
end Go.Proofs.YtgeahpfdaehjaaaGreatDoor
namespace Go.Proofs.YtgeahpfdaehjaaaGreatDoor
open Go.ChangeShapes Go.WideShapes Go.ChangeAt Go.RowKit
set_option linter.unusedVariables false

/-- Tags, wherever they lie. -/
def RdT (w : World) (A : Option Addr) (ts : Tags) : Prop :=
  ts = [] ∨ ∃ b o, A = some ⟨b, o, none⟩ ∧ ∀ i x y, ts[i]? = some (x, y) → w.cell? ⟨b, o + i * 2, none⟩ = some (.string x) ∧ w.cell? ⟨b, o + i * 2 + 1, none⟩ = some (.string y)
theorem RdT.keep {w w' : World} {A : Option Addr} {ts : Tags} (h : RdT w A ts) (hk : ∀ b o v, w.cell? ⟨b, o, none⟩ = some v → w'.cell? ⟨b, o, none⟩ = some v) : RdT w' A ts := by
  rcases h with h | ⟨b, o, e, h⟩
  · exact .inl h
  · exact .inr ⟨b, o, e, fun i x y hi => ⟨hk _ _ _ (h i x y hi).1, hk _ _ _ (h i x y hi).2⟩⟩
theorem RdT.below {w w' : World} {A : Option Addr} {ts : Tags} (h : RdT w A ts) (hb : Below w.heap.size w w') : RdT w' A ts :=
  h.keep fun b o v hc => by rw [hb.cell (World.block_lt_of_cell? w _ hc), hc]
theorem RdT.alloc {w : World} {A : Option Addr} {ts : Tags} (h : RdT w A ts) (x : Obj) : RdT (w.alloc x) A ts := h.below ((Below.refl _ _).alloc (Nat.le_refl _) _)
theorem tagCells_at (ts : Tags) : ∀ i x y, ts[i]? = some (x, y) → (tagCells ts)[i * 2]? = some (.string x) ∧ (tagCells ts)[i * 2 + 1]? = some (.string y) := by
  induction ts with
  | nil => intro i x y h; simp at h
  | cons t r ih =>
    intro i x y h
    cases i with
    | zero => simp at h; subst h; exact ⟨rfl, rfl⟩
    | succ i =>
      have h' : r[i]? = some (x, y) := by simpa using h
      have := ih i x y h'
      rw [show (i + 1) * 2 = i * 2 + 1 + 1 by omega]
      exact this
theorem OwnT.rd {w : World} {base : Nat} {A : Option Addr} {cap : Nat} {ts : Tags} (h : OwnT w base A cap ts) : RdT w A ts := by
  rcases h.2 with ⟨hv, hn⟩ | ⟨g, cap', cur, hv, hb, hg, hnc, hcm, hcs, htake⟩
  · exact .inl (List.eq_nil_of_length_eq_zero hn)
  · have hA : A = some ⟨g, 0, none⟩ := by cases hv; rfl
    refine .inr ⟨g, 0, hA, fun i x y hi => ?_⟩
    obtain ⟨h0, h1⟩ := tagCells_at ts i x y hi
    have hl := tagCells_length ts
    have hi' : i < ts.length := (List.getElem?_eq_some_iff.1 hi).1
    constructor
    · rw [Nat.zero_add, cell_of_block hg, ← h0, ← htake, List.getElem?_take, if_pos (by omega)]; simp
    · rw [Nat.zero_add, cell_of_block hg, ← h1, ← htake, List.getElem?_take, if_pos (by omega)]; simp

theorem eq_pair (x y : ByteArray) (w : World) : (Op.equalIn 10000 198 (.agg #[.string x, .string y]) (.agg #[.string x, .string y])).run Tryz.prog w = .ok true w := by
  have u9 := Tryz.underlying9
  have a9 := Tryz.isAgg9
  have z9 := Tryz.sizeOf9
  have hS : Tryz.prog.underlying 198 = some (.struct (Tryz.prog.fieldsOf 198)) := by kernel_rfl
  have hp : Tryz.prog.stoodInHeld 198 = false := by kernel_rfl
  rw [show (10000 : Nat) = 9999 + 1 from rfl, run_equalIn_agg w 9999 198 _ _ hS hp]
  simp only [Program.fieldsOf, Tryz.underlying198]
  go_simp
theorem guard_pair : Tryz.prog.eqGuardType Tryz.prog.depth 198 = false := by kernel_rfl

end Go.Proofs.YtgeahpfdaehjaaaGreatDoor
namespace Go.Proofs.YtgeahpfdaehjaaaGreatDoor
open Go.ChangeShapes Go.WideShapes Go.ChangeAt Go.RowKit
set_option linter.unusedVariables false

def tagOk (t : ByteArray × ByteArray) : Bool := wordB t.1 && wordB t.2
def restOk (k t : Int) : Bool := decide (1 ≤ k) && decide (k ≤ 3) && decide (0 ≤ t) && decide (t ≤ 1099511627776)
def mayB (n : ByteArray) (ts : Tags) (k t : Int) : Bool := wordB n && decide (ts.length ≤ 6) && ts.all tagOk && restOk k t
def Small (n : ByteArray) (ts : Tags) : Prop := n.size ≤ 100 ∧ ts.length ≤ 20 ∧ ∀ x y, (x, y) ∈ ts → x.size ≤ 100 ∧ y.size ≤ 100

/-- Tags that are gone through in a block of an event, wherever they lie. -/
structure Go4 (w : World) (g : Nat) (n : ByteArray) (A : Option Addr) (c : Nat) (k v t : Int) (ts : Tags) (wr : World) : Prop where
  below : Below w.heap.size w wr
  ev : EvB wr g n A ts.length c k v t
  rd : RdT wr A ts
theorem Go4.at {w : World} {g : Nat} {n : ByteArray} {A : Option Addr} {c : Nat} {k v t : Int} {ts : Tags} {wr : World} (h : Go4 w g n A c k v t ts wr) {i : Nat} {x y : ByteArray} (hi : ts[i]? = some (x, y)) :
    ∃ b o, A = some ⟨b, o, none⟩ ∧ wr.cell? ⟨b, o + i * 2, none⟩ = some (.string x) ∧ wr.cell? ⟨b, o + i * 2 + 1, none⟩ = some (.string y) := by
  rcases h.rd with h0 | ⟨b, o, e, hc⟩
  · rw [h0] at hi; simp at hi
  · exact ⟨b, o, e, hc i x y hi⟩
theorem Go4.start (w : World) (n : ByteArray) (A : Option Addr) (c : Nat) (k v t : Int) (ts : Tags) (hr : RdT w A ts) :
    Go4 w w.heap.size n A c k v t ts (w.alloc (.cells #[.string n, .slice A ts.length c, .int .i64 k, .int .i64 v, .int .i64 t] 154)) :=
  ⟨(Below.refl _ _).alloc (Nat.le_refl _) _, heap_alloc_new w _, hr.alloc _⟩
theorem Go4.more {w : World} {g : Nat} {n : ByteArray} {A : Option Addr} {c : Nat} {k v t : Int} {ts : Tags} {wr : World} (h : Go4 w g n A c k v t ts wr) (o : Obj) : Go4 w g n A c k v t ts (wr.alloc o) :=
  ⟨h.below.alloc h.below.size _, by unfold EvB; rw [(World.grownBy_alloc _ _ none).block _ (lt_of_block h.ev) (by simp)]; exact h.ev, h.rd.alloc _⟩

theorem Go4.drew {w : World} {g : Nat} {n : ByteArray} {A : Option Addr} {c : Nat} {k v t : Int} {ts : Tags} {wr : World} (h : Go4 w g n A c k v t ts wr) (m : Nat) : Go4 w g n A c k v t ts (wr.drewN m) :=
  ⟨⟨h.below.os, h.below.tape, h.below.output, h.below.size, h.below.block⟩, h.ev, h.rd.keep fun b o x hc => hc⟩
def BB (b : Bool) (w : World) (e : Ending) (w' : World) : Prop := e = .returned (.bool b) ∧ Below w.heap.size w w'
theorem all_false {ts : Tags} {i : Nat} {x y : ByteArray} (h : ts[i]? = some (x, y)) (hb : tagOk (x, y) = false) : ts.all tagOk = false := by
  rw [List.all_eq_false]; exact ⟨(x, y), List.mem_of_getElem? h, by rw [hb]; simp⟩
def AllOk (ts : Tags) (i : Nat) : Prop := (ts.take i).all tagOk = true
theorem AllOk.next {ts : Tags} {i : Nat} {x y : ByteArray} (h : AllOk ts i) (hi : ts[i]? = some (x, y)) (hb : tagOk (x, y) = true) : AllOk ts (i + 1) := by
  unfold AllOk at h ⊢
  obtain ⟨hl, e⟩ := List.getElem?_eq_some_iff.1 hi
  rw [List.take_succ_eq_append_getElem hl, List.all_append, h, e]
  simp [hb]
theorem AllOk.whole {ts : Tags} {i : Nat} (h : AllOk ts i) (hi : ts.length ≤ i) : ts.all tagOk = true := by
  unfold AllOk at h
  rwa [List.take_of_length_le hi] at h

/-- How the last test goes, of the kind and the time. -/
theorem rest_cases (k t : Int) : (decide (1 ≤ k) = false ∧ restOk k t = false) ∨ (decide (1 ≤ k) = true ∧ decide (k ≤ 3) = false ∧ restOk k t = false)
    ∨ (decide (1 ≤ k) = true ∧ decide (k ≤ 3) = true ∧ decide (0 ≤ t) = false ∧ restOk k t = false) ∨ (decide (1 ≤ k) = true ∧ decide (k ≤ 3) = true ∧ decide (0 ≤ t) = true ∧ decide (t ≤ 1099511627776) = false ∧ restOk k t = false)
    ∨ (decide (1 ≤ k) = true ∧ decide (k ≤ 3) = true ∧ decide (0 ≤ t) = true ∧ decide (t ≤ 1099511627776) = true ∧ restOk k t = true) := by
  unfold restOk
  cases h1 : decide (1 ≤ k)
  · exact .inl ⟨rfl, by simp⟩
  cases h2 : decide (k ≤ 3)
  · exact .inr (.inl ⟨rfl, rfl, by simp⟩)
  cases h3 : decide (0 ≤ t)
  · exact .inr (.inr (.inl ⟨rfl, rfl, rfl, by simp⟩))
  cases h4 : decide (t ≤ 1099511627776)
  · exact .inr (.inr (.inr (.inl ⟨rfl, rfl, rfl, rfl, by simp⟩)))
  · exact .inr (.inr (.inr (.inr ⟨rfl, rfl, rfl, rfl, by simp⟩)))

end Go.Proofs.YtgeahpfdaehjaaaGreatDoor
namespace Go.Proofs.YtgeahpfdaehjaaaGreatDoor

def digitOn (a : Nat) (c : UInt8) : Nat := 10 * a + (c.toNat - 48)
def natFrom (a : Nat) (l : List UInt8) : Nat := l.foldl digitOn a
theorem rev_ind {P : List UInt8 → Prop} (h0 : P []) (h1 : ∀ l c, P l → P (l ++ [c])) (l : List UInt8) : P l := by
  have : ∀ m : List UInt8, P m.reverse := fun m => by
    induction m with
    | nil => exact h0
    | cons c m ih => rw [List.reverse_cons]; exact h1 _ c ih
  have h := this l.reverse
  rwa [List.reverse_reverse] at h
def natOf (l : List UInt8) : Nat := natFrom 0 l
theorem natFrom_cons (a : Nat) (c : UInt8) (l : List UInt8) : natFrom a (c :: l) = natFrom (10 * a + (c.toNat - 48)) l := by
  have h : natFrom a (c :: l) = natFrom (digitOn a c) l := by unfold natFrom; rw [List.foldl_cons]
  rw [h, digitOn]
theorem natFrom_nil (a : Nat) : natFrom a [] = a := by unfold natFrom; rw [List.foldl_nil]
theorem natFrom_snoc (c : UInt8) : ∀ (l : List UInt8) (a : Nat), natFrom a (l ++ [c]) = 10 * natFrom a l + (c.toNat - 48)
  | [], a => by rw [List.nil_append, natFrom_cons, natFrom_nil, natFrom_nil]
  | d :: l, a => by rw [List.cons_append, natFrom_cons, natFrom_cons, natFrom_snoc c l]
theorem natOf_nil : natOf [] = 0 := by unfold natOf; rw [natFrom_nil]
theorem natOf_snoc (l : List UInt8) (c : UInt8) : natOf (l ++ [c]) = 10 * natOf l + (c.toNat - 48) := natFrom_snoc c l 0
theorem natFrom_ge : ∀ (l : List UInt8) (a : Nat), a ≤ natFrom a l
  | [], a => by rw [natFrom_nil]; exact Nat.le_refl _
  | c :: l, a => by rw [natFrom_cons]; have := natFrom_ge l (10 * a + (c.toNat - 48)); omega
theorem isD_iff (c : UInt8) : isD c = true ↔ 48 ≤ c.toNat ∧ c.toNat ≤ 57 := by unfold isD; simp
theorem natOf_lt (l : List UInt8) (h : ∀ c ∈ l, isD c = true) : natOf l < 10 ^ l.length := by
  induction l using rev_ind with
  | h0 => rw [natOf_nil]; simp
  | h1 l c ih =>
    have hc := (isD_iff c).1 (h c (by simp))
    have := ih (fun d hd => h d (by simp [hd]))
    rw [natOf_snoc, List.length_append, List.length_singleton, Nat.pow_succ]
    omega
def lead (l : List UInt8) : Prop := ∀ c, l.head? = some c → c.toNat ≠ 48
theorem natFrom_digits : ∀ (l : List UInt8) (a : Nat), a * 10 ^ l.length ≤ natFrom a l
  | [], a => by rw [natFrom_nil]; simp
  | c :: l, a => by
    rw [natFrom_cons, List.length_cons, Nat.pow_succ]
    have := natFrom_digits l (10 * a + (c.toNat - 48))
    have h2 : a * (10 ^ l.length * 10) ≤ (10 * a + (c.toNat - 48)) * 10 ^ l.length := by
      rw [Nat.add_mul]
      have : a * (10 ^ l.length * 10) = 10 * a * 10 ^ l.length := by rw [Nat.mul_comm (10 ^ l.length) 10, ← Nat.mul_assoc, Nat.mul_comm a 10]
      omega
    omega
theorem natOf_ge {c : UInt8} {l : List UInt8} (h : isD c = true) (h0 : c.toNat ≠ 48) : 10 ^ l.length ≤ natOf (c :: l) := by
  have hc := (isD_iff c).1 h
  have := natFrom_digits l (10 * 0 + (c.toNat - 48))
  unfold natOf
  rw [natFrom_cons]
  refine Nat.le_trans ?_ this
  have : 1 * 10 ^ l.length ≤ (10 * 0 + (c.toNat - 48)) * 10 ^ l.length := Nat.mul_le_mul_right _ (by omega)
  omega

theorem u8_digit (c : UInt8) (h : isD c = true) : UInt8.ofNat (48 + (c.toNat - 48)) = c := by
  have hc := (isD_iff c).1 h
  rw [show 48 + (c.toNat - 48) = c.toNat by omega]
  exact UInt8.ofNat_toNat
/-- Digits without a 0 ahead are the numeral of their number. -/
theorem dec_natOf (l : List UInt8) (hne : l ≠ []) (hd : ∀ c ∈ l, isD c = true) (hc : lead l ∨ l.length = 1) : Lib.decDigits (natOf l) = l := by
  induction l using rev_ind with
  | h0 => exact absurd rfl hne
  | h1 l c ih =>
    have hcd := hd c (by simp)
    have hcb := (isD_iff c).1 hcd
    cases l with
    | nil =>
      have e : natOf ([] ++ [c]) = c.toNat - 48 := by rw [natOf_snoc, natOf_nil]; omega
      rw [e, Lib.decDigits_one (by omega), u8_digit c hcd]; rfl
    | cons d l =>
      have hl : lead (d :: l) := by
        rcases hc with h | h
        · intro x hx; exact h x (by simpa using hx)
        · simp at h
      have hpos : 1 ≤ natOf (d :: l) := by
        have := natOf_ge (l := l) (hd d (by simp)) (hl d rfl)
        have := Nat.one_le_pow l.length 10 (by omega)
        omega
      have ih' := ih (by simp) (fun x hx => hd x (by simp only [List.mem_append]; exact .inl hx)) (.inl hl)
      rw [natOf_snoc, Lib.decDigits, dif_neg (by omega), show (10 * natOf (d :: l) + (c.toNat - 48)) / 10 = natOf (d :: l) by omega, ih', show (10 * natOf (d :: l) + (c.toNat - 48)) % 10 = c.toNat - 48 by omega, u8_digit c hcd]
theorem digit_toNat (k : Nat) (h : k < 10) : (UInt8.ofNat (48 + k)).toNat = 48 + k := by rw [UInt8.toNat_ofNat']; omega
theorem dec_digits (u : Nat) : ∀ c ∈ Lib.decDigits u, isD c = true := by
  induction u using Nat.strongRecOn with
  | _ u ih =>
    intro c hc
    have one : ∀ k, k < 10 → isD (UInt8.ofNat (48 + k)) = true := fun k hk => by
      rw [isD_iff, digit_toNat k hk]; omega
    rw [Lib.decDigits] at hc
    split at hc
    · rw [List.mem_singleton.1 hc]; exact one u (by omega)
    · rcases List.mem_append.1 hc with h | h
      · exact ih (u / 10) (by omega) c h
      · rw [List.mem_singleton.1 h]; exact one (u % 10) (by omega)
theorem dec_ne (u : Nat) : Lib.decDigits u ≠ [] := by
  rw [Lib.decDigits]; split <;> simp
theorem dec_lead (u : Nat) (hu : 1 ≤ u) : lead (Lib.decDigits u) := by
  induction u using Nat.strongRecOn with
  | _ u ih =>
    intro c hc
    rw [Lib.decDigits] at hc
    split at hc
    · rename_i hlt
      have e : UInt8.ofNat (48 + u) = c := Option.some.inj hc
      rw [← e, digit_toNat u hlt]; omega
    · have := ih (u / 10) (by omega) (by omega)
      refine this c ?_
      rw [List.head?_append] at hc
      cases h : (Lib.decDigits (u / 10)).head? with
      | none => exact absurd (List.head?_eq_none_iff.1 h) (dec_ne _)
      | some d => rw [h] at hc; exact hc
theorem natOf_dec (u : Nat) : natOf (Lib.decDigits u) = u := by
  induction u using Nat.strongRecOn with
  | _ u ih =>
    rw [Lib.decDigits]
    split
    · rename_i hlt
      have := natOf_snoc [] (UInt8.ofNat (48 + u))
      rw [List.nil_append, natOf_nil, digit_toNat u hlt] at this
      omega
    · rw [natOf_snoc, ih (u / 10) (by omega), digit_toNat (u % 10) (by omega)]; omega

theorem parseUint_digits : ∀ (l : List UInt8) (a : Nat), (∀ c ∈ l, isD c = true) → a ≤ 18446744073709551615 →
    Lib.parseUintM 18446744073709551615 a l = if natFrom a l ≤ 18446744073709551615 then .ok (natFrom a l) else .range
  | [], a, _, ha => by rw [Lib.parseUintM, natFrom_nil, if_pos ha]
  | c :: l, a, h, ha => by
    have hc := (isD_iff c).1 (h c (by simp))
    rw [Lib.parseUintM, if_pos hc, natFrom_cons]
    have hge := natFrom_ge l (10 * a + (c.toNat - 48))
    split
    · rw [if_neg (by omega)]
    · split
      · rw [if_neg (by omega)]
      · rw [show a * 10 + (c.toNat - 48) = 10 * a + (c.toNat - 48) by omega]
        exact parseUint_digits l _ (fun x hx => h x (by simp [hx])) (by omega)

/-- A sign or none, and digits. -/
def signed (neg : Bool) (l : List UInt8) : List UInt8 := if neg then 45 :: l else l
theorem parseInt_digits (neg : Bool) (l : List UInt8) (hne : l ≠ []) (hd : ∀ c ∈ l, isD c = true) :
    Lib.parseIntB 64 (signed neg l) = if natOf l ≤ 9223372036854775807 ∨ (neg = true ∧ natOf l = 9223372036854775808) then .ok (if neg then -(natOf l : Int) else natOf l) else .range := by
  have hU : Lib.parseUintB 64 l = if natOf l ≤ 18446744073709551615 then .ok (natOf l) else .range := by
    unfold Lib.parseUintB
    rw [if_neg hne]
    exact parseUint_digits l 0 hd (by omega)
  have p63 : (2 : Nat) ^ (64 - 1) = 9223372036854775808 := by decide
  cases neg with
  | true =>
    simp only [signed, if_true, Lib.parseIntB]
    have e45 : (45 : UInt8).toNat = 45 := rfl
    simp only [e45, or_true, if_true, hU]
    by_cases h1 : natOf l ≤ 18446744073709551615
    · simp only [h1, if_true, not_true_eq_false, false_and, if_false, true_and, p63]
      by_cases h2 : 9223372036854775808 < natOf l
      · rw [if_pos h2, if_neg (by omega)]
      · rw [if_neg h2, if_pos (by omega)]
    · simp only [h1, if_false]
      rw [if_neg (by omega)]
  | false =>
    cases l with
    | nil => exact absurd rfl hne
    | cons c r =>
      have hc := (isD_iff c).1 (hd c (by simp))
      simp only [signed, Bool.false_eq_true, if_false, Lib.parseIntB]
      rw [if_neg (by omega), hU]
      by_cases h1 : natOf (c :: r) ≤ 18446744073709551615
      · simp only [h1, if_true]
        have n45 : ¬ c.toNat = 45 := by omega
        simp only [n45, not_false_eq_true, true_and, p63, false_and, if_false, or_false]
        by_cases h2 : 9223372036854775808 ≤ natOf (c :: r)
        · rw [if_pos h2, if_neg (by omega)]
        · rw [if_neg h2, if_pos (by omega)]
      · simp only [h1, if_false]
        rw [if_neg (by omega)]

/-- What stands for a number: nothing that is empty, begins with a 0 that isn't all of it, or is -0. -/
def oddD (neg : Bool) (l : List UInt8) : Prop := l = [] ∨ (1 < l.length ∧ l.head? = some 48) ∨ (neg = true ∧ l = [48])
theorem itoa_signed (neg : Bool) (l : List UInt8) (hne : l ≠ []) (hd : ∀ c ∈ l, isD c = true) (ho : ¬ oddD neg l) : Lib.itoa (if neg then -(natOf l : Int) else natOf l) = signed neg l := by
  have hc : lead l ∨ l.length = 1 := by
    cases l with
    | nil => exact absurd rfl hne
    | cons c r =>
      by_cases h1 : r = []
      · exact .inr (by simp [h1])
      · refine .inl (fun x hx => ?_)
        simp at hx
        subst hx
        intro e
        exact ho (.inr (.inl ⟨by cases r with | nil => exact absurd rfl h1 | cons _ _ => simp, by
          have : c = 48 := UInt8.toNat_inj.1 (by rw [e]; rfl)
          simp [this]⟩))
  have hD := dec_natOf l hne hd hc
  cases neg with
  | false => simp only [Bool.false_eq_true, if_false, signed]; rw [Lib.itoa_nonneg, hD]
  | true =>
    have hp : 1 ≤ natOf l := by
      cases l with
      | nil => exact absurd rfl hne
      | cons c r =>
        have hcd := (isD_iff c).1 (hd c (by simp))
        by_cases h48 : c.toNat = 48
        · have ec : c = 48 := UInt8.toNat_inj.1 (by rw [h48]; rfl)
          exfalso
          cases r with
          | nil => exact ho (.inr (.inr ⟨rfl, by rw [ec]⟩))
          | cons d r => exact ho (.inr (.inl ⟨by simp, by simp [ec]⟩))
        · have := natOf_ge (l := r) (hd c (by simp)) h48
          have := Nat.one_le_pow r.length 10 (by omega)
          omega
    simp only [if_true, signed]; rw [Lib.itoa_neg _ hp, hD]
theorem itoa_odd (neg : Bool) (l : List UInt8) (hd : ∀ c ∈ l, isD c = true) (ho : oddD neg l) (v : Int) : Lib.itoa v ≠ signed neg l := by
  intro e
  have key : ∃ u, Lib.decDigits u = l ∧ (neg = true → 1 ≤ u) := by
    unfold Lib.itoa at e
    split at e
    · rename_i hv
      cases neg with
      | true => simp only [signed, if_true, List.cons.injEq, true_and] at e; exact ⟨_, e, fun _ => by omega⟩
      | false =>
        simp only [signed, Bool.false_eq_true, if_false] at e
        have := hd 45 (by rw [← e]; simp)
        exact absurd this (by decide)
    · rename_i hv
      cases neg with
      | true =>
        simp only [signed, if_true] at e
        have := dec_digits v.toNat 45 (by rw [e]; simp)
        exact absurd this (by decide)
      | false => simp only [signed, Bool.false_eq_true, if_false] at e; exact ⟨_, e, fun h => by cases h⟩
  obtain ⟨u, hu, hn⟩ := key
  rcases ho with h | ⟨h1, h2⟩ | ⟨h1, h2⟩
  · exact dec_ne u (by rw [hu, h])
  · by_cases hu0 : 1 ≤ u
    · exact dec_lead u hu0 48 (by rw [hu, h2]) rfl
    · have : u = 0 := by omega
      subst this
      rw [← hu] at h1
      rw [Lib.decDigits_one (by omega)] at h1
      simp at h1
  · exact dec_lead u (hn h1) 48 (by rw [hu, h2]; rfl) rfl

/-- The number of a sign and digits, as the document's own answer has it. -/
def refVal (neg : Bool) (l : List UInt8) : Option Int :=
  if l = [] ∨ 19 < l.length ∨ (1 < l.length ∧ l.head? = some 48) ∨ (neg = true ∧ l = [48]) then none
  else if 9223372036854775808 < natOf l ∨ (natOf l = 9223372036854775808 ∧ neg = false) then none
  else some (if neg then -(natOf l : Int) else natOf l)
theorem valOf_signed (neg : Bool) (l : List UInt8) (hd : ∀ c ∈ l, isD c = true) : valOf (signed neg l) = refVal neg l := by
  unfold refVal
  by_cases ho : oddD neg l
  · rw [if_pos (by rcases ho with h | h | h <;> simp [h])]
    unfold valOf
    split
    · rw [if_neg (itoa_odd neg l hd ho _)]
    · rfl
  · have hne : l ≠ [] := fun h => ho (.inl h)
    have h2 : ¬ (1 < l.length ∧ l.head? = some 48) := fun h => ho (.inr (.inl h))
    have h3 : ¬ (neg = true ∧ l = [48]) := fun h => ho (.inr (.inr h))
    have hv : valOf (signed neg l) = if natOf l ≤ 9223372036854775807 ∨ (neg = true ∧ natOf l = 9223372036854775808) then some (if neg then -(natOf l : Int) else natOf l) else none := by
      unfold valOf
      rw [parseInt_digits neg l hne hd]
      by_cases hb : natOf l ≤ 9223372036854775807 ∨ (neg = true ∧ natOf l = 9223372036854775808)
      · rw [if_pos hb, if_pos hb]
        simp only
        rw [if_pos (itoa_signed neg l hne hd ho)]
      · rw [if_neg hb, if_neg hb]
    rw [hv]
    by_cases h19 : 19 < l.length
    · have hbig : 10000000000000000000 ≤ natOf l := by
        cases l with
        | nil => exact absurd rfl hne
        | cons c r =>
          have h48 : c.toNat ≠ 48 := fun e => h2 ⟨by simp at h19 ⊢; omega, by
            have : c = 48 := UInt8.toNat_inj.1 (by rw [e]; rfl)
            simp [this]⟩
          have := natOf_ge (l := r) (hd c (by simp)) h48
          have hp : 10 ^ 19 ≤ 10 ^ r.length := Nat.pow_le_pow_right (by omega) (by simp at h19; omega)
          have : (10 : Nat) ^ 19 = 10000000000000000000 := by decide
          omega
      rw [if_neg (by omega), if_pos (.inr (.inl h19))]
    · rw [if_neg (c := l = [] ∨ 19 < l.length ∨ _ ∨ _) (by simp only [not_or]; exact ⟨hne, h19, h2, h3⟩)]
      have hC : (natOf l ≤ 9223372036854775807 ∨ (neg = true ∧ natOf l = 9223372036854775808)) ↔ ¬ (9223372036854775808 < natOf l ∨ (natOf l = 9223372036854775808 ∧ neg = false)) := by
        cases neg <;> simp <;> omega
      by_cases hD : 9223372036854775808 < natOf l ∨ (natOf l = 9223372036854775808 ∧ neg = false)
      · rw [if_neg (fun h => hC.1 h hD), if_pos hD]
      · rw [if_pos (hC.2 hD), if_neg hD]
end Go.Proofs.YtgeahpfdaehjaaaGreatDoor
namespace Go.Proofs.YtgeahpfdaehjaaaGreatDoor
open Go.ChangeShapes Go.WideShapes Go.ChangeAt Go.RowKit
set_option linter.unusedVariables false

def evZero : Value := evVal ⟨#[]⟩ none 0 0 0 0 0
/-- An error that is a Spot, laid since. -/
def SpotAt (w : World) (base N p : Nat) (code : Int) : Prop := base ≤ N ∧ w.heap[N]? = some (.cells #[.int .i64 p, .int .i64 code] 191 (0, 0))
def ParseBad (w : World) (p : Nat) (e : Ending) (w' : World) : Prop :=
  ∃ N, e = .returned (.tuple #[evZero, .iface 189 (.pointer (some ⟨N, 0, none⟩))]) ∧ SpotAt w' w.heap.size N p 2 ∧ Below w.heap.size w w'
def ParseGood (w : World) (ev : Ev) (e : Ending) (w' : World) : Prop :=
  ∃ A c, e = .returned (.tuple #[evVal ev.name A ev.tags.length c ev.kind ev.value ev.time, .nilIface]) ∧ OwnT w' w.heap.size A c ev.tags ∧ Below w.heap.size w w'
def ParsePost (w : World) (r : Res) (e : Ending) (w' : World) : Prop :=
  match r with
  | .bad p => ParseBad w p e w'
  | .good ev => ParseGood w ev e w'

theorem parseLarge (s : ByteArray) (w : World) (hs : 300 < s.size) (hm : s.size ≤ 9223372036854775807) :
    Calls Tryz.prog 142 #[.string s] w fun e w' => e = .returned (.tuple #[evZero, .iface 41 (.int .i64 3)]) ∧ Below w.heap.size w w' := by
  have e1 : decide ((300 : Int) < s.size) = true := decide_eq_true (by omega)
  go_enter Tryz.func142, Tryz.ntmps142
  go_wp2_with fail
  refine bodyPost_ret (v := .tuple #[evZero, .iface 41 (.int .i64 3)]) (by simp [results, Tryz.results142, go_sem, evVal, evZero]) rfl ?_
  exact ⟨rfl, (Below.refl _ _).alloc (Nat.le_refl _) _⟩

theorem below_of_some {w w' : World} {b : Nat} (g : w.grownBy w' (some b)) (hb : w.heap.size ≤ b) : Below w.heap.size w w' :=
  ⟨g.os, g.tape, g.output, g.size, fun k hk => g.block k hk (fun e => by cases e; omega)⟩
theorem grown_drew1 {w w1 : World} {r : Option Nat} (g : w.grownBy w1 r) : w.grownBy w1.drew r := ⟨g.os, g.tape, g.output, g.size, g.block⟩
theorem grown_set5 {w w1 : World} {r : Option Nat} (h : w.grownBy w1 r) {g : Nat} (hg : w.heap.size ≤ g) (v0 v1 v2 v3 v4 : Value) :
    w.grownBy (((((w1.setCell ⟨g, 0, none⟩ v0).setCell ⟨g, 1, none⟩ v1).setCell ⟨g, 2, none⟩ v2).setCell ⟨g, 3, none⟩ v3).setCell ⟨g, 4, none⟩ v4) r :=
  grown_set (grown_set (grown_set (grown_set (grown_set h _ _ (Or.inr hg)) _ _ (Or.inr hg)) _ _ (Or.inr hg)) _ _ (Or.inr hg)) _ _ (Or.inr hg)
theorem new_block {x : World} {N : Nat} (o : Obj) (h : x.heap.size = N) : (x.alloc o).drew.heap[N]? = some o := by
  subst h; exact heap_alloc_new x o

set_option maxHeartbeats 1000000 in
theorem lineParse (s : ByteArray) (w : World) (hL : Laid w) (hs : s.size ≤ 300) :
    Calls Tryz.prog 142 #[.string s] w (ParsePost w (parseF s)) := by
  have hn := hL.n
  have e1 : decide ((300 : Int) < s.size) = false := decide_eq_false (by omega)
  have hR : Rd ((w.alloc (.cells #[.string ⟨#[]⟩, .slice none 0 0, .int .i64 0, .int .i64 0, .int .i64 0] 154)).alloc (.cells #[.string s, .int .i64 0] 228)) (w.heap.size + 1) s 0 := by
    have := heap_alloc_new (w.alloc (.cells #[.string ⟨#[]⟩, .slice none 0 0, .int .i64 0, .int .i64 0, .int .i64 0] 154)) (.cells #[.string s, .int .i64 0] 228)
    rw [World.size_alloc] at this
    exact this
  have C := Lib.hid (readEvent _ (w.heap.size + 1) s hR ((hL.alloc _).alloc _) (by omega) hs)
  clear hR
  go_enter Tryz.func142, Tryz.ntmps142
  go_wp2_with fail
  rcases hp : parseF s with p | ev
  · rw [hp] at C
    have HX := Lib.hid hp
    clear hp
    refine C.out.mono ?_
    rintro e w1 ⟨n, A, l, c, k, v, t, rfl, m1⟩
    unfold evVal
    have hE0 : EvB ((w.alloc (.cells #[.string ⟨#[]⟩, .slice none 0 0, .int .i64 0, .int .i64 0, .int .i64 0] 154)).alloc (.cells #[.string s, .int .i64 0] 228)) w.heap.size ⟨#[]⟩ none 0 0 0 0 0 := by
      unfold EvB
      rw [(World.grownBy_alloc _ _ none).block w.heap.size (by simp) (by simp)]
      exact heap_alloc_new w _
    have hE1 : EvB w1 w.heap.size ⟨#[]⟩ none 0 0 0 0 0 := hE0.grown m1.grown (by omega)
    have hB1 : w.grownBy w1 (some (w.heap.size + 1)) := grown_trans (grown_alloc (World.grownBy_alloc _ _ _) _) m1.grown
    have hz1 := lt_of_block m1.rd
    have HE1 := Lib.hid hE1
    have HB1 := Lib.hid hB1
    have M1 := Lib.hid m1
    clear m1 hE0 hE1 hB1
    go_wp2_with fail
    have M2 := Lib.hid (M1.out.alloc (.cells #[.string n, .slice A l c, .int .i64 k, .int .i64 v, .int .i64 t] 154))
    have E2 := Lib.hid (show EvB (w1.alloc (.cells #[.string n, .slice A l c, .int .i64 k, .int .i64 v, .int .i64 t] 154)) w.heap.size ⟨#[]⟩ none 0 0 0 0 0 from HE1.out.grown (b := w.heap.size + 1) (World.grownBy_alloc _ _ _) (by omega))
    have B2 := Lib.hid (grown_alloc HB1.out (.cells #[.string n, .slice A l c, .int .i64 k, .int .i64 v, .int .i64 t] 154))
    have hz2 : w.heap.size + 1 < (w1.alloc (.cells #[.string n, .slice A l c, .int .i64 k, .int .i64 v, .int .i64 t] 154)).heap.size := by simp; omega
    clear HE1 HB1 M1 hz1
    generalize w1.alloc (.cells #[.string n, .slice A l c, .int .i64 k, .int .i64 v, .int .i64 t] 154) = w2 at M2 E2 B2 hz2 ⊢
    have r1 := M2.out.rd.c1
    have c0 := E2.out.c0
    have c1 := E2.out.c1
    have c2 := E2.out.c2
    have c3 := E2.out.c3
    have c4 := E2.out.c4
    have f0 := E2.out.f 0
    have f1 := E2.out.f 1
    have f2 := E2.out.f 2
    have f3 := E2.out.f 3
    have f4 := E2.out.f 4
    have hz3 : w.heap.size < w2.heap.size := by omega
    go_region
    all_goals go_wp2_with fail
    all_goals
      refine bodyPost_ret (v := .tuple #[evZero, .iface 189 (.pointer (some ⟨w2.heap.size, 0, none⟩))]) (by simp [results, Tryz.results142, go_sem, evVal, evZero, c0, c1, c2, c3, c4, hz3]) rfl ?_
      rw [HX.out]
      exact ⟨w2.heap.size, rfl, ⟨by omega, new_block _ (by simp)⟩, below_of_some (grown_drew1 (grown_alloc (grown_set5 B2.out (Nat.le_refl _) _ _ _ _ _) _)) (Nat.le_succ _)⟩
  · rw [hp] at C
    have HX := Lib.hid hp
    clear hp
    refine C.out.mono ?_
    rintro e w1 ⟨A, c, p, rfl, m1, o1⟩
    unfold evVal
    have hE0 : EvB ((w.alloc (.cells #[.string ⟨#[]⟩, .slice none 0 0, .int .i64 0, .int .i64 0, .int .i64 0] 154)).alloc (.cells #[.string s, .int .i64 0] 228)) w.heap.size ⟨#[]⟩ none 0 0 0 0 0 := by
      unfold EvB
      rw [(World.grownBy_alloc _ _ none).block w.heap.size (by simp) (by simp)]
      exact heap_alloc_new w _
    have hE1 : EvB w1 w.heap.size ⟨#[]⟩ none 0 0 0 0 0 := hE0.grown m1.grown (by omega)
    have hB1 : w.grownBy w1 (some (w.heap.size + 1)) := grown_trans (grown_alloc (World.grownBy_alloc _ _ _) _) m1.grown
    have hz1 := lt_of_block m1.rd
    have hO1 : OwnT w1 (w.heap.size + 1) A c ev.tags := o1.mono (by simp)
    have HO1 := Lib.hid hO1
    have HB1 := Lib.hid hB1
    have c0 := hE1.c0
    have c1 := hE1.c1
    have c2 := hE1.c2
    have c3 := hE1.c3
    have c4 := hE1.c4
    have f0 := hE1.f 0
    have f1 := hE1.f 1
    have f2 := hE1.f 2
    have f3 := hE1.f 3
    have f4 := hE1.f 4
    have hz3 : w.heap.size < w1.heap.size := by omega
    clear m1 hE0 hE1 hB1 o1 hO1
    go_wp2_with fail
    refine bodyPost_ret (v := .tuple #[evVal ev.name A ev.tags.length c ev.kind ev.value ev.time, .nilIface]) (by simp [results, Tryz.results142, go_sem, evVal, c0, c1, c2, c3, c4, hz3]) rfl ?_
    rw [HX.out]
    exact ⟨A, c, rfl, ((OwnT.set5 HO1.out (Nat.lt_succ_self _) _ _ _ _ _).alloc _).mono (Nat.le_succ _), below_of_some (grown_alloc (grown_set5 HB1.out (Nat.le_refl _) _ _ _ _ _) _) (Nat.le_succ _)⟩
end Go.Proofs.YtgeahpfdaehjaaaGreatDoor
namespace Go.Proofs.YtgeahpfdaehjaaaGreatDoor
open Go.ChangeShapes Go.WideShapes Go.ChangeAt Go.RowKit
set_option linter.unusedVariables false

def RVl (r : Option Int) (w : World) (e : Ending) (w' : World) : Prop :=
  match r with
  | some v => e = .returned (.tuple #[.int .i64 v, .bool true]) ∧ w = w'
  | none => ∃ x, e = .returned (.tuple #[.int .i64 x, .bool false]) ∧ w = w'
def within (lo hi : Int) (r : Option Int) : Option Int := match r with | some v => if lo ≤ v ∧ v ≤ hi then some v else none | none => none

/-- The number so far. -/
structure Sum (l : List UInt8) (i : Nat) (n : Int) : Prop where
  eq : n = natOf (l.take i)
  lt : natOf (l.take i) < 10 ^ i
theorem Sum.next {d : ByteArray} {i : Nat} {n : Int} (h : Sum d.data.toList i n) (hi : i < d.size) (hd : isD d[i] = true) : Sum d.data.toList (i + 1) (10 * n + d[i].toNat - 48) := by
  have hb := (isD_iff d[i]).1 hd
  have e : natOf (d.data.toList.take (i + 1)) = 10 * natOf (d.data.toList.take i) + (d[i].toNat - 48) := by rw [take_snoc d i hi, natOf_snoc]
  refine ⟨?_, ?_⟩
  · rw [e, h.eq]; omega
  · rw [e, Nat.pow_succ]; have := h.lt; omega
theorem Sum.bd {l : List UInt8} {i : Nat} {n : Int} (h : Sum l i n) (hi : i ≤ 18) : 0 ≤ n ∧ n ≤ 999999999999999999 := by
  have := h.lt
  have hp : 10 ^ i ≤ 10 ^ 18 := Nat.pow_le_pow_right (by omega) hi
  have : (10 : Nat) ^ 18 = 1000000000000000000 := by decide
  rw [h.eq]; omega

set_option maxHeartbeats 2000000 in
set_option maxRecDepth 100000 in
theorem value0N (t d : ByteArray) (lo hi : Int) (w : World) (hs : t.size ≤ 300) (hds : d.size ≤ 300) (hts : 0 < t.size) (hdd : t.extract 1 t.size = d) (ht0 : ((t[0].toNat : Int) == 45) = true) (h0 : d.size = 0) :
    Calls Tryz.prog 125 #[.string t, .int .i64 lo, .int .i64 hi] w (RVl none w) := by
  have e0 : ((d.size : Int) == 0) = true := by rw [beq_iff_eq]; omega
  clear h0
  go_enter Tryz.func125, Tryz.ntmps125
  go_wp2
  all_goals
    go_ret2
    exact ⟨0, rfl, rfl⟩
set_option maxHeartbeats 2000000 in
set_option maxRecDepth 100000 in
theorem value19N (t d : ByteArray) (lo hi : Int) (w : World) (hs : t.size ≤ 300) (hds : d.size ≤ 300) (hts : 0 < t.size) (hdd : t.extract 1 t.size = d) (ht0 : ((t[0].toNat : Int) == 45) = true) (h0 : 19 < d.size) :
    Calls Tryz.prog 125 #[.string t, .int .i64 lo, .int .i64 hi] w (RVl none w) := by
  have e0 : ((d.size : Int) == 0) = false := by rw [beq_eq_false_iff_ne]; omega
  have e1 : decide ((19 : Int) < d.size) = true := decide_eq_true (by omega)
  go_enter Tryz.func125, Tryz.ntmps125
  go_wp2
  all_goals
    go_ret2
    exact ⟨0, rfl, rfl⟩
set_option maxHeartbeats 2000000 in
set_option maxRecDepth 100000 in
theorem valueZN (t d : ByteArray) (lo hi : Int) (w : World) (hs : t.size ≤ 300) (hds : d.size ≤ 300) (hts : 0 < t.size) (hdd : t.extract 1 t.size = d) (ht0 : ((t[0].toNat : Int) == 45) = true) (h0 : 1 < d.size) (h1 : d.size ≤ 19) (h48 : ((d[0].toNat : Int) == 48) = true) :
    Calls Tryz.prog 125 #[.string t, .int .i64 lo, .int .i64 hi] w (RVl none w) := by
  have e0 : ((d.size : Int) == 0) = false := by rw [beq_eq_false_iff_ne]; omega
  have e1 : decide ((19 : Int) < d.size) = false := decide_eq_false (by omega)
  have e2 : decide ((1 : Int) < d.size) = true := decide_eq_true (by omega)
  go_enter Tryz.func125, Tryz.ntmps125
  go_wp2
  all_goals
    go_ret2
    exact ⟨0, rfl, rfl⟩
set_option maxHeartbeats 2000000 in
set_option maxRecDepth 100000 in
theorem value0P (d : ByteArray) (lo hi : Int) (w : World) (hds : d.size ≤ 300) (ht0 : ∀ h : 0 < d.size, ((d[0].toNat : Int) == 45) = false) (h0 : d.size = 0) :
    Calls Tryz.prog 125 #[.string d, .int .i64 lo, .int .i64 hi] w (RVl none w) := by
  have e0 : ((d.size : Int) == 0) = true := by rw [beq_iff_eq]; omega
  have z0 : ¬ 0 < d.size := by omega
  clear ht0
  clear h0
  go_enter Tryz.func125, Tryz.ntmps125
  go_wp2
  all_goals
    go_ret2
    exact ⟨0, rfl, rfl⟩
set_option maxHeartbeats 2000000 in
set_option maxRecDepth 100000 in
theorem value19P (d : ByteArray) (lo hi : Int) (w : World) (hds : d.size ≤ 300) (ht0 : ∀ h : 0 < d.size, ((d[0].toNat : Int) == 45) = false) (h0 : 19 < d.size) :
    Calls Tryz.prog 125 #[.string d, .int .i64 lo, .int .i64 hi] w (RVl none w) := by
  have t0 := ht0 (by omega)
  clear ht0
  have e0 : ((d.size : Int) == 0) = false := by rw [beq_eq_false_iff_ne]; omega
  have e1 : decide ((19 : Int) < d.size) = true := decide_eq_true (by omega)
  have z0 : 0 < d.size := by omega
  go_enter Tryz.func125, Tryz.ntmps125
  go_wp2
  all_goals
    go_ret2
    exact ⟨0, rfl, rfl⟩
set_option maxHeartbeats 2000000 in
set_option maxRecDepth 100000 in
theorem valueZP (d : ByteArray) (lo hi : Int) (w : World) (hds : d.size ≤ 300) (ht0 : ∀ h : 0 < d.size, ((d[0].toNat : Int) == 45) = false) (h0 : 1 < d.size) (h1 : d.size ≤ 19) (h48 : ((d[0].toNat : Int) == 48) = true) :
    Calls Tryz.prog 125 #[.string d, .int .i64 lo, .int .i64 hi] w (RVl none w) := by
  have t0 := ht0 (by omega)
  clear ht0
  have e0 : ((d.size : Int) == 0) = false := by rw [beq_eq_false_iff_ne]; omega
  have e1 : decide ((19 : Int) < d.size) = false := decide_eq_false (by omega)
  have e2 : decide ((1 : Int) < d.size) = true := decide_eq_true (by omega)
  have z0 : 0 < d.size := by omega
  go_enter Tryz.func125, Tryz.ntmps125
  go_wp2
  all_goals
    go_ret2
    exact ⟨0, rfl, rfl⟩
set_option maxHeartbeats 2000000 in
set_option maxRecDepth 100000 in
theorem valueM (t d : ByteArray) (lo hi : Int) (w : World) (hs : t.size ≤ 300) (hds : d.size ≤ 300) (hts : 0 < t.size) (hdd : t.extract 1 t.size = d) (ht0 : ((t[0].toNat : Int) == 45) = true) (h1 : d.size = 1) (h48 : (d.toList == [48]) = true) :
    Calls Tryz.prog 125 #[.string t, .int .i64 lo, .int .i64 hi] w (RVl none w) := by
  have e0 : ((d.size : Int) == 0) = false := by rw [beq_eq_false_iff_ne]; omega
  have e1 : decide ((19 : Int) < d.size) = false := decide_eq_false (by omega)
  have e2 : decide ((1 : Int) < d.size) = false := decide_eq_false (by omega)
  clear h1
  go_enter Tryz.func125, Tryz.ntmps125
  go_wp2
  all_goals
    go_ret2
    exact ⟨0, rfl, rfl⟩

def refE (neg : Bool) (n : Nat) : Option Int := if 9223372036854775808 < n ∨ (n = 9223372036854775808 ∧ neg = false) then none else some (if neg then -(n : Int) else n)
theorem u64_neg (n : Int) (h1 : 1 ≤ n) (h2 : n ≤ 9223372036854775808) : wrap64 (IntKind.u64.wrap (-n)) = -n := by
  rw [IntKind.wrap_u64]; unfold wrap64; omega
set_option maxHeartbeats 2000000 in
set_option maxRecDepth 100000 in
theorem valueEN (t d : ByteArray) (lo hi : Int) (w : World) (hs : t.size ≤ 300) (hds : d.size ≤ 300) (hts : 0 < t.size) (hdd : t.extract 1 t.size = d) (ht0 : ((t[0].toNat : Int) == 45) = true) (hg : ∀ i (h : i < d.size), isD d[i] = true) (h1 : 1 ≤ d.size) (h19 : d.size ≤ 19) (hz : decide ((1 : Int) < d.size) = false ∨ (decide ((1 : Int) < d.size) = true ∧ ((d[0].toNat : Int) == 48) = false)) (hm : (d.toList == [48]) = false) (hp : 1 ≤ natOf d.data.toList) (l0 : -9223372036854775808 ≤ lo) (l1 : lo ≤ 9223372036854775807) (h0 : -9223372036854775808 ≤ hi) (h2 : hi ≤ 9223372036854775807) :
    Calls Tryz.prog 125 #[.string t, .int .i64 lo, .int .i64 hi] w (RVl (within lo hi (refE true (natOf d.data.toList))) w) := by
  have e0 : ((d.size : Int) == 0) = false := by rw [beq_eq_false_iff_ne]; omega
  have e1 : decide ((19 : Int) < d.size) = false := decide_eq_false (by omega)
  have HG := Lib.hid hg
  clear hg
  obtain ⟨m, hm0⟩ : ∃ m, m = natOf d.data.toList := ⟨_, rfl⟩
  rw [← hm0] at hp ⊢
  have HM := Lib.hid hm0
  clear hm0
  rcases hz with e2 | ⟨e2, e3⟩
  all_goals
    go_enter Tryz.func125, Tryz.ntmps125
    go_wp2
    go_loop [9, 10] (fun a i => ∃ (k : Nat) (n : Int), k ≤ d.size ∧ i = .int .i64 k ∧ a = .int .u64 n ∧ Hid (Sum d.data.toList k n)) (fun _ i => d.size - (intOf i).toNat)
    case atStart => exact ⟨0, 0, Nat.zero_le _, rfl, rfl, Lib.hid ⟨by rw [List.take_zero, natOf_nil]; rfl, by rw [List.take_zero, natOf_nil]; decide⟩⟩
    case round =>
      obtain ⟨k, n, hk, rfl, rfl, HS⟩ := hrel
      by_cases hlt : k < d.size
      · obtain ⟨n0, n1⟩ := HS.out.bd (by omega)
        have hb := (isD_iff d[k]).1 (HG.out k hlt)
        obtain ⟨b0, b1⟩ := hb
        have HN := Lib.hid (HS.out.next hlt (HG.out k hlt))
        generalize hc : d[k].toNat = c at HN b0 b1
        go_wp2
        go_round
        case rel => exact ⟨k + 1, _, by omega, by go_num, rfl, HN⟩
        case measure => simp [intOf]; omega
      · have hn : n = (m : Int) := by
          have := HS.out.eq
          rw [List.take_of_length_le (by simp; omega), ← HM.out] at this
          exact this
        clear HS
        subst hn
        by_cases hbig : 9223372036854775808 < m
        · have HP : Hid (within lo hi (refE true m) = none) := Lib.hid (by unfold refE; rw [if_pos (.inl hbig)]; rfl)
          have g1 : decide ((9223372036854775808 : Int) < m) = true := decide_eq_true (by omega)
          clear hbig
          go_wp2
          go_ret2
          rw [HP.out]
          exact ⟨0, rfl, rfl⟩
        have g1 : decide ((9223372036854775808 : Int) < m) = false := decide_eq_false (by omega)
        have hV : refE true m = some (-(m : Int)) := by unfold refE; rw [if_neg (by simp; omega)]; rfl
        have HV := Lib.hid hV
        clear hV
        have u1 := u64_neg m (by omega) (by omega)
        obtain ⟨q, g2⟩ : ∃ q, ((m : Int) == 9223372036854775808) = q := ⟨_, rfl⟩
        cases q
        all_goals
          by_cases hlo : (-(m : Int)) < lo
          · have HP : Hid (within lo hi (refE true m) = none) := Lib.hid (by rw [HV.out]; unfold within; simp only; rw [if_neg (by omega)])
            have g3 : decide (lo ≤ (-(m : Int))) = false := decide_eq_false (by omega)
            go_wp2
            go_ret2
            rw [HP.out]
            exact ⟨_, rfl, rfl⟩
          have g3 : decide (lo ≤ (-(m : Int))) = true := decide_eq_true (by omega)
          by_cases hhi : hi < (-(m : Int))
          · have HP : Hid (within lo hi (refE true m) = none) := Lib.hid (by rw [HV.out]; unfold within; simp only; rw [if_neg (by omega)])
            have g4 : decide ((-(m : Int)) ≤ hi) = false := decide_eq_false (by omega)
            go_wp2
            go_ret2
            rw [HP.out]
            exact ⟨_, rfl, rfl⟩
          · have HP : Hid (within lo hi (refE true m) = some (-(m : Int))) := Lib.hid (by rw [HV.out]; unfold within; simp only; rw [if_pos (by omega)])
            have g4 : decide ((-(m : Int)) ≤ hi) = true := decide_eq_true (by omega)
            go_wp2
            go_ret2
            rw [HP.out]
            exact ⟨rfl, rfl⟩
set_option maxHeartbeats 2000000 in
set_option maxRecDepth 100000 in
theorem valueEP (d : ByteArray) (lo hi : Int) (w : World) (hds : d.size ≤ 300) (ht0 : ∀ h : 0 < d.size, ((d[0].toNat : Int) == 45) = false) (hg : ∀ i (h : i < d.size), isD d[i] = true) (h1 : 1 ≤ d.size) (h19 : d.size ≤ 19) (hz : decide ((1 : Int) < d.size) = false ∨ (decide ((1 : Int) < d.size) = true ∧ ((d[0].toNat : Int) == 48) = false)) (l0 : -9223372036854775808 ≤ lo) (l1 : lo ≤ 9223372036854775807) (h0 : -9223372036854775808 ≤ hi) (h2 : hi ≤ 9223372036854775807) :
    Calls Tryz.prog 125 #[.string d, .int .i64 lo, .int .i64 hi] w (RVl (within lo hi (refE false (natOf d.data.toList))) w) := by
  have t0 := ht0 (by omega)
  clear ht0
  have z0 : 0 < d.size := by omega
  have e0 : ((d.size : Int) == 0) = false := by rw [beq_eq_false_iff_ne]; omega
  have e1 : decide ((19 : Int) < d.size) = false := decide_eq_false (by omega)
  have HG := Lib.hid hg
  clear hg
  obtain ⟨m, hm0⟩ : ∃ m, m = natOf d.data.toList := ⟨_, rfl⟩
  rw [← hm0]
  have HM := Lib.hid hm0
  clear hm0
  rcases hz with e2 | ⟨e2, e3⟩
  all_goals
    go_enter Tryz.func125, Tryz.ntmps125
    go_wp2
    go_loop [9, 10] (fun a i => ∃ (k : Nat) (n : Int), k ≤ d.size ∧ i = .int .i64 k ∧ a = .int .u64 n ∧ Hid (Sum d.data.toList k n)) (fun _ i => d.size - (intOf i).toNat)
    case atStart => exact ⟨0, 0, Nat.zero_le _, rfl, rfl, Lib.hid ⟨by rw [List.take_zero, natOf_nil]; rfl, by rw [List.take_zero, natOf_nil]; decide⟩⟩
    case round =>
      obtain ⟨k, n, hk, rfl, rfl, HS⟩ := hrel
      by_cases hlt : k < d.size
      · obtain ⟨n0, n1⟩ := HS.out.bd (by omega)
        have hb := (isD_iff d[k]).1 (HG.out k hlt)
        obtain ⟨b0, b1⟩ := hb
        have HN := Lib.hid (HS.out.next hlt (HG.out k hlt))
        generalize hc : d[k].toNat = c at HN b0 b1
        go_wp2
        go_round
        case rel => exact ⟨k + 1, _, by omega, by go_num, rfl, HN⟩
        case measure => simp [intOf]; omega
      · have hn : n = (m : Int) := by
          have := HS.out.eq
          rw [List.take_of_length_le (by simp; omega), ← HM.out] at this
          exact this
        clear HS
        subst hn
        by_cases hbig : 9223372036854775808 < m
        · have HP : Hid (within lo hi (refE false m) = none) := Lib.hid (by unfold refE; rw [if_pos (.inl hbig)]; rfl)
          have g1 : decide ((9223372036854775808 : Int) < m) = true := decide_eq_true (by omega)
          clear hbig
          go_wp2
          go_ret2
          rw [HP.out]
          exact ⟨0, rfl, rfl⟩
        have g1 : decide ((9223372036854775808 : Int) < m) = false := decide_eq_false (by omega)
        by_cases heq : m = 9223372036854775808
        · have HP : Hid (within lo hi (refE false m) = none) := Lib.hid (by unfold refE; rw [if_pos (.inr ⟨heq, rfl⟩)]; rfl)
          have g2 : ((m : Int) == 9223372036854775808) = true := by rw [beq_iff_eq]; omega
          clear heq
          go_wp2
          go_ret2
          rw [HP.out]
          exact ⟨0, rfl, rfl⟩
        have g2 : ((m : Int) == 9223372036854775808) = false := by rw [beq_eq_false_iff_ne]; omega
        have hle : m ≤ 9223372036854775807 := by omega
        have hV : refE false m = some (m : Int) := by unfold refE; rw [if_neg (by omega)]; rfl
        have HV := Lib.hid hV
        clear hV
        by_cases hlo : (m : Int) < lo
        · have HP : Hid (within lo hi (refE false m) = none) := Lib.hid (by rw [HV.out]; unfold within; simp only; rw [if_neg (by omega)])
          have g3 : decide (lo ≤ (m : Int)) = false := decide_eq_false (by omega)
          go_wp2
          go_ret2
          rw [HP.out]
          exact ⟨_, rfl, rfl⟩
        have g3 : decide (lo ≤ (m : Int)) = true := decide_eq_true (by omega)
        by_cases hhi : hi < (m : Int)
        · have HP : Hid (within lo hi (refE false m) = none) := Lib.hid (by rw [HV.out]; unfold within; simp only; rw [if_neg (by omega)])
          have g4 : decide ((m : Int) ≤ hi) = false := decide_eq_false (by omega)
          go_wp2
          go_ret2
          rw [HP.out]
          exact ⟨_, rfl, rfl⟩
        · have HP : Hid (within lo hi (refE false m) = some (m : Int)) := Lib.hid (by rw [HV.out]; unfold within; simp only; rw [if_pos (by omega)])
          have g4 : decide ((m : Int) ≤ hi) = true := decide_eq_true (by omega)
          go_wp2
          go_ret2
          rw [HP.out]
          exact ⟨rfl, rfl⟩

theorem refVal_eq (neg : Bool) (d : ByteArray) (hd : d.size ≠ 0) (h19 : d.size ≤ 19) (h1 : ¬ (1 < d.size ∧ d.data.toList.head? = some 48)) (h2 : ¬ (neg = true ∧ d.data.toList = [48])) : refVal neg d.data.toList = refE neg (natOf d.data.toList) := by
  have hl : d.data.toList.length = d.size := by simp
  unfold refVal
  rw [if_neg, refE]
  rw [hl]
  simp only [not_or]
  exact ⟨fun e => hd (by rw [← hl, e]; rfl), by omega, h1, h2⟩
theorem head_of {d : ByteArray} (h : 0 < d.size) : d.data.toList.head? = some d[0] := by
  have hl : 0 < d.data.toList.length := by simpa using h
  rw [List.head?_eq_getElem?, List.getElem?_eq_getElem hl]; rfl
theorem c48 (c : UInt8) : (c = 48) ↔ c.toNat = 48 := ⟨fun e => by rw [e]; rfl, fun e => UInt8.toNat_inj.1 (by rw [e]; rfl)⟩
theorem refVal_none {neg : Bool} {d : ByteArray} (h : d.size = 0 ∨ 19 < d.size ∨ (1 < d.size ∧ d.data.toList.head? = some 48) ∨ (neg = true ∧ d.data.toList = [48])) : refVal neg d.data.toList = none := by
  have hl : d.data.toList.length = d.size := by simp
  unfold refVal
  rw [if_pos]
  rw [hl]
  rcases h with h | h
  · exact .inl (List.eq_nil_of_length_eq_zero (by rw [hl, h]))
  · exact .inr h

theorem refValue (t d : ByteArray) (neg : Bool) (lo hi : Int) (w : World) (hs : t.size ≤ 300) (ht : t.data.toList = signed neg d.data.toList) (hd : ∀ c ∈ d.data.toList, isD c = true)
    (l0 : -9223372036854775808 ≤ lo) (l1 : lo ≤ 9223372036854775807) (h0 : -9223372036854775808 ≤ hi) (h1 : hi ≤ 9223372036854775807) :
    Calls Tryz.prog 125 #[.string t, .int .i64 lo, .int .i64 hi] w (RVl (within lo hi (refVal neg d.data.toList)) w) := by
  have hdl : d.data.toList.length = d.size := by simp
  have htl : t.data.toList.length = t.size := by simp
  have hget : ∀ i (h : i < d.size), isD d[i] = true := fun i h => hd _ (Array.getElem_mem_toList (xs := d.data) (i := i) h)
  have hnone : ∀ {r}, r = none → Calls Tryz.prog 125 #[.string t, .int .i64 lo, .int .i64 hi] w (RVl none w) → Calls Tryz.prog 125 #[.string t, .int .i64 lo, .int .i64 hi] w (RVl (within lo hi r) w) := fun e h => by subst e; exact h
  cases neg with
  | true =>
    have hsz : t.size = d.size + 1 := by rw [← htl, ht, ← hdl]; rfl
    have hex : t.extract 1 t.size = d := ba_ext (by
      rw [ByteArray.data_extract, Array.toList_extract, ht]
      simp only [signed, if_true, List.extract]
      rw [hsz]
      simp
      exact List.take_of_length_le (by omega))
    have h45 : ∀ h : 0 < t.size, ((t[0].toNat : Int) == 45) = true := fun h => by
      have e := head_of h
      rw [ht] at e
      have : (45 : UInt8) = t[0] := Option.some.inj e
      rw [← this]; rfl
    have hts : 0 < t.size := by omega
    by_cases g0 : d.size = 0
    · exact hnone (refVal_none (.inl g0)) (value0N t d lo hi w hs (by omega) hts hex (h45 hts) g0)
    by_cases g19 : 19 < d.size
    · exact hnone (refVal_none (.inr (.inl g19))) (value19N t d lo hi w hs (by omega) hts hex (h45 hts) g19)
    by_cases gz : 1 < d.size ∧ d.data.toList.head? = some 48
    · exact hnone (refVal_none (.inr (.inr (.inl gz)))) (valueZN t d lo hi w hs (by omega) hts hex (h45 hts) gz.1 (by omega) (by
        have e := head_of (d := d) (by omega)
        rw [gz.2] at e
        rw [← Option.some.inj e]; rfl))
    by_cases gm : d.data.toList = [48]
    · exact hnone (refVal_none (.inr (.inr (.inr ⟨rfl, gm⟩)))) (valueM t d lo hi w hs (by omega) hts hex (h45 hts) (by rw [← hdl, gm]; rfl) (by rw [Lib.toList_data, gm]; rfl))
    rw [refVal_eq true d g0 (by omega) gz (fun h => gm h.2)]
    refine valueEN t d lo hi w hs (by omega) hts hex (h45 hts) hget (by omega) (by omega) ?_ (by rw [Lib.toList_data]; exact beq_eq_false_iff_ne.2 gm) ?_ l0 l1 h0 h1
    · by_cases g1 : 1 < d.size
      · refine .inr ⟨decide_eq_true (by omega), ?_⟩
        rw [beq_eq_false_iff_ne]
        intro e
        exact gz ⟨g1, by rw [head_of (by omega)]; exact congrArg some ((c48 _).2 (by omega))⟩
      · exact .inl (decide_eq_false (by omega))
    · have ho : ¬ oddD true d.data.toList := by
        rintro (h | h | h)
        · exact g0 (by rw [← hdl, h]; rfl)
        · exact gz ⟨by rw [hdl] at h; exact h.1, h.2⟩
        · exact gm h.2
      rcases Nat.eq_zero_or_pos (natOf d.data.toList) with e | e
      · have := itoa_signed true d.data.toList (fun h => g0 (by rw [← hdl, h]; rfl)) hd ho
        rw [e] at this
        simp only [if_true, signed] at this
        rw [show (-((0 : Nat) : Int)) = ((0 : Nat) : Int) from rfl, Lib.itoa_nonneg, Lib.decDigits_one (by omega)] at this
        exact absurd (List.cons.inj this).1 (by decide)
      · exact e
  | false =>
    obtain rfl : t = d := ba_ext ht
    have h45 : ∀ h : 0 < t.size, ((t[0].toNat : Int) == 45) = false := fun h => by
      have := (isD_iff t[0]).1 (hget 0 h)
      rw [beq_eq_false_iff_ne]; omega
    by_cases g0 : t.size = 0
    · exact hnone (refVal_none (.inl g0)) (value0P t lo hi w hs h45 g0)
    by_cases g19 : 19 < t.size
    · exact hnone (refVal_none (.inr (.inl g19))) (value19P t lo hi w hs h45 g19)
    by_cases gz : 1 < t.size ∧ t.data.toList.head? = some 48
    · exact hnone (refVal_none (.inr (.inr (.inl gz)))) (valueZP t lo hi w hs h45 gz.1 (by omega) (by
        have e := head_of (d := t) (by omega)
        rw [gz.2] at e
        rw [← Option.some.inj e]; rfl))
    rw [refVal_eq false t g0 (by omega) gz (fun h => by cases h.1)]
    refine valueEP t lo hi w hs h45 hget (by omega) (by omega) ?_ l0 l1 h0 h1
    by_cases g1 : 1 < t.size
    · refine .inr ⟨decide_eq_true (by omega), ?_⟩
      rw [beq_eq_false_iff_ne]
      intro e
      exact gz ⟨g1, by rw [head_of (by omega)]; exact congrArg some ((c48 _).2 (by omega))⟩
    · exact .inl (decide_eq_false (by omega))
end Go.Proofs.YtgeahpfdaehjaaaGreatDoor
namespace Go.Proofs.YtgeahpfdaehjaaaGreatDoor
open Go.ChangeShapes Go.WideShapes Go.ChangeAt Go.RowKit
set_option linter.unusedVariables false

theorem take_takeWhile (p : UInt8 → Bool) : ∀ l : List UInt8, l.take (l.takeWhile p).length = l.takeWhile p
  | [] => rfl
  | c :: l => by
    rw [List.takeWhile_cons]
    split
    · rw [List.length_cons, List.take_succ_cons, take_takeWhile p l]
    · rfl
theorem all_takeWhile (p : UInt8 → Bool) : ∀ l : List UInt8, ∀ c ∈ l.takeWhile p, p c = true
  | [], c, h => by cases h
  | d :: l, c, h => by
    rw [List.takeWhile_cons] at h
    split at h
    · rcases List.mem_cons.1 h with e | e
      · rw [e]; assumption
      · exact all_takeWhile p l c e
    · cases h
theorem run_list (p : UInt8 → Bool) (s : ByteArray) (k : Nat) : (s.extract k (runEnd p s k)).data.toList = (s.data.toList.drop k).takeWhile p := by
  rw [extract_list]
  unfold runEnd
  rw [show k + ((s.data.toList.drop k).takeWhile p).length - k = ((s.data.toList.drop k).takeWhile p).length by omega, take_takeWhile]

/-- What stands from a place to where its number ends is a sign or none, and digits. -/
theorem num_signed (s : ByteArray) (k : Nat) : ∃ (neg : Bool) (d : ByteArray), (s.extract k (numEnd s k)).data.toList = signed neg d.data.toList ∧ ∀ c ∈ d.data.toList, isD c = true := by
  by_cases h : chr s k = 45
  · have hk := chr_lt_size (s := s) (k := k) (by omega)
    refine ⟨true, s.extract (k + 1) (runEnd isD s (k + 1)), ?_, fun c hc => ?_⟩
    · have hge := runEnd_ge isD s (k + 1)
      rw [numEnd, if_pos h, extract_list, drop_at s k hk, extract_list]
      rw [show runEnd isD s (k + 1) - k = (runEnd isD s (k + 1) - (k + 1)) + 1 by omega, List.take_succ_cons]
      simp only [signed, if_true]
      have e : s[k] = 45 := UInt8.toNat_inj.1 (by rw [← chr_in hk, h]; rfl)
      rw [e]
    · rw [run_list] at hc; exact all_takeWhile _ _ c hc
  · refine ⟨false, s.extract k (runEnd isD s k), ?_, fun c hc => ?_⟩
    · rw [numEnd, if_neg h]; rfl
    · rw [run_list] at hc; exact all_takeWhile _ _ c hc
theorem refNum (s : ByteArray) (k : Nat) (lo hi : Int) (w : World) (hs : s.size ≤ 300) (hk : k ≤ s.size)
    (l0 : -9223372036854775808 ≤ lo) (l1 : lo ≤ 9223372036854775807) (h0 : -9223372036854775808 ≤ hi) (h1 : hi ≤ 9223372036854775807) :
    Calls Tryz.prog 125 #[.string (s.extract k (numEnd s k)), .int .i64 lo, .int .i64 hi] w (RVl (numAt s k lo hi) w) := by
  obtain ⟨neg, d, ht, hd⟩ := num_signed s k
  have hsz : (s.extract k (numEnd s k)).size ≤ 300 := by rw [extract_size _ _ _ (numEnd_le hk).2]; have := (numEnd_le hk).2; omega
  have h := refValue (s.extract k (numEnd s k)) d neg lo hi w hsz ht hd l0 l1 h0 h1
  have e : within lo hi (refVal neg d.data.toList) = numAt s k lo hi := by
    unfold numAt
    rw [ht, valOf_signed neg _ hd]
    rfl
  rw [e] at h
  exact h

def RefBad (w : World) (p : Nat) (e : Ending) (w' : World) : Prop := e = .returned (.tuple #[evZero, .int .i64 p]) ∧ Below w.heap.size w w'
def RefGood (w : World) (ev : Ev) (e : Ending) (w' : World) : Prop :=
  ∃ A c, e = .returned (.tuple #[evVal ev.name A ev.tags.length c ev.kind ev.value ev.time, .int .i64 (-1)]) ∧ OwnT w' w.heap.size A c ev.tags ∧ Below w.heap.size w w'
def RefPost (w : World) (r : Res) (e : Ending) (w' : World) : Prop :=
  match r with
  | .bad p => RefBad w p e w'
  | .good ev => RefGood w ev e w'

/-- Where the document's Parse stands: the result's block, the event's behind it. -/
structure AtR (w : World) (n : ByteArray) (A : Option Addr) (c : Nat) (kd v t : Int) (ts : Tags) (w1 : World) : Prop where
  grown : w.grownBy w1 none
  res : EvB w1 w.heap.size ⟨#[]⟩ none 0 0 0 0 0
  ev : EvB w1 (w.heap.size + 1) n A ts.length c kd v t
  own : OwnT w1 (w.heap.size + 2) A c ts
section
variable {w w1 w2 : World} {n : ByteArray} {A : Option Addr} {c : Nat} {kd v t : Int} {ts : Tags}
theorem EvB.other {w : World} {g : Nat} {n : ByteArray} {A : Option Addr} {l c : Nat} {k v t : Int} (h : EvB w g n A l c k v t) (a : Addr) (x : Value) (ha : g ≠ a.block) : EvB (w.setCell a x) g n A l c k v t := by
  unfold EvB; rw [heap_set_other ha]; exact h
theorem AtR.put (h : AtR w n A c kd v t ts w1) (o : Nat) (x : Value) {n' : ByteArray} {A' : Option Addr} {c' : Nat} {kd' v' t' : Int} {ts' : Tags}
    (he : EvB (w1.setCell ⟨w.heap.size + 1, o, none⟩ x) (w.heap.size + 1) n' A' ts'.length c' kd' v' t') (ho : OwnT w1 (w.heap.size + 2) A' c' ts') : AtR w n' A' c' kd' v' t' ts' (w1.setCell ⟨w.heap.size + 1, o, none⟩ x) where
  grown := grown_set h.grown _ _ (Or.inr (Nat.le_succ _))
  res := h.res.other _ _ (by show w.heap.size ≠ w.heap.size + 1; omega)
  ev := he
  own := ho.set _ _ (Nat.lt_succ_self _)
theorem AtR.below (h : AtR w n A c kd v t ts w1) (hb : Below (w.heap.size + 2) w1 w2) :
    w.grownBy w2 none ∧ EvB w2 w.heap.size ⟨#[]⟩ none 0 0 0 0 0 ∧ EvB w2 (w.heap.size + 1) n A ts.length c kd v t := by
  refine ⟨grown_of_below h.grown hb (by omega), ?_, ?_⟩
  · unfold EvB; rw [hb.block _ (by omega)]; exact h.res
  · unfold EvB; rw [hb.block _ (by omega)]; exact h.ev
theorem AtR.back (h : AtR w n A c kd v t ts w1) (v0 v1 v2 v3 v4 : Value) : Below w.heap.size w (((((w1.setCell ⟨w.heap.size, 0, none⟩ v0).setCell ⟨w.heap.size, 1, none⟩ v1).setCell ⟨w.heap.size, 2, none⟩ v2).setCell ⟨w.heap.size, 3, none⟩ v3).setCell ⟨w.heap.size, 4, none⟩ v4) :=
  below_of_grown (grown_set5 h.grown (Nat.le_refl _) _ _ _ _ _)
end
theorem slice_str (s : ByteArray) (x y : Int) (a b : Nat) (hx : x = a) (hy : y = b) (hab : a ≤ b) (hb : b ≤ s.size) (w : World) :
    (Instr.slice 9 (.string s) (some (.int .i64 x)) (some (.int .i64 y)) none).run Tryz.prog w = .ok (.string (s.extract a b)) w := by
  subst hx hy
  rw [run_slice_string_if w _ _ _ _ _ _ Tryz.underlying9, if_pos (by omega), if_pos (by omega)]
  simp
theorem step_append_run {P : Program} {ops : Array Oper} {o : Oper} {a : Act} {w w' : World} {K : Act → World → Prop} {Q : Exit → Act → World → Prop} {E : Prop}
    (hg : o.guard = none) (s x : Operand) (t : TypeId) (hop : o.op = Op.call { callee := Callee.builtin Builtin.append, args := #[s, x], argTypes := #[t, t] })
    (vs vx v' : Value) (hs : a.eval s = vs) (hx : a.eval x = vx) (hrun : (Builtin.append_ #[t, t] o.type #[vs, vx]).run P w = .ok v' w') (hK : K (a.put o.dst v') w') :
    if Region.wanted o (yielded ops a.tmps) = true then Oper.wp P o a w K Q else E := by
  have hw : Region.wanted o (yielded ops a.tmps) = true := by simp [Region.wanted, hg]
  rw [if_pos hw]
  unfold Oper.wp
  simp [execOp, hop, resolve, invoke, builtin, hs, hx, hrun, Result.andThen]
  exact hK
end Go.Proofs.YtgeahpfdaehjaaaGreatDoor
