/-
  Layer 4 (line): the reader's method event: all of a line.
-/
import Derived.Test.YtedhciolnekpaaaGreatDoorGrpC
import Derived.Deep.RegionWith
namespace Go.Proofs.YtedhciolnekpaaaGreatDoor
open Go.ChangeShapes Go.WideShapes Go.ChangeAt Go.RowKit
set_option linter.unusedVariables false

/-- An event in a block of its own. -/
def EvB (w : World) (g : Nat) (n : ByteArray) (A : Option Addr) (l c : Nat) (k v t : Int) : Prop :=
  w.heap[g]? = some (.cells #[.string n, .slice A l c, .int .i64 k, .int .i64 v, .int .i64 t] 78 (0, 0))
section
variable {w w' : World} {g b : Nat} {n : ByteArray} {A : Option Addr} {l c : Nat} {k v t : Int}
theorem EvB.c0 (h : EvB w g n A l c k v t) : w.cell? ⟨g, 0, none⟩ = some (.string n) := cell_of_block h
theorem EvB.c1 (h : EvB w g n A l c k v t) : w.cell? ⟨g, 1, none⟩ = some (.slice A l c) := cell_of_block h
theorem EvB.c2 (h : EvB w g n A l c k v t) : w.cell? ⟨g, 2, none⟩ = some (.int .i64 k) := cell_of_block h
theorem EvB.c3 (h : EvB w g n A l c k v t) : w.cell? ⟨g, 3, none⟩ = some (.int .i64 v) := cell_of_block h
theorem EvB.c4 (h : EvB w g n A l c k v t) : w.cell? ⟨g, 4, none⟩ = some (.int .i64 t) := cell_of_block h
theorem EvB.f (h : EvB w g n A l c k v t) (o : Nat) : w.frozen? ⟨g, o, none⟩ = false := frozen_of_block h
theorem EvB.grown (h : EvB w g n A l c k v t) (hg : w.grownBy w' (some b)) (hb : b ≠ g) : EvB w' g n A l c k v t := by
  unfold EvB; rw [hg.block g (lt_of_block h) (fun e => hb (Option.some.inj e).symm)]; exact h
theorem EvB.set0 (h : EvB w g n A l c k v t) (x : ByteArray) : EvB (w.setCell ⟨g, 0, none⟩ (.string x)) g x A l c k v t := heap_set_same h
theorem EvB.set1 (h : EvB w g n A l c k v t) (A' : Option Addr) (l' c' : Nat) : EvB (w.setCell ⟨g, 1, none⟩ (.slice A' l' c')) g n A' l' c' k v t := heap_set_same h
theorem EvB.set2 (h : EvB w g n A l c k v t) (x : Int) : EvB (w.setCell ⟨g, 2, none⟩ (.int .i64 x)) g n A l c x v t := heap_set_same h
theorem EvB.set3 (h : EvB w g n A l c k v t) (x : Int) : EvB (w.setCell ⟨g, 3, none⟩ (.int .i64 x)) g n A l c k x t := heap_set_same h
theorem EvB.set4 (h : EvB w g n A l c k v t) (x : Int) : EvB (w.setCell ⟨g, 4, none⟩ (.int .i64 x)) g n A l c k v x := heap_set_same h
end

def evVal (n : ByteArray) (A : Option Addr) (l c : Nat) (k v t : Int) : Value := .agg #[.string n, .slice A l c, .int .i64 k, .int .i64 v, .int .i64 t]
def EvFail (w : World) (b : Nat) (s : ByteArray) (p : Nat) (e : Ending) (w' : World) : Prop :=
  ∃ n A l c k v t, e = .returned (.tuple #[evVal n A l c k v t, .bool false]) ∧ Mv w b s p w'
def EvGood (w : World) (b : Nat) (s : ByteArray) (ev : Ev) (e : Ending) (w' : World) : Prop :=
  ∃ A c p, e = .returned (.tuple #[evVal ev.name A ev.tags.length c ev.kind ev.value ev.time, .bool true]) ∧ Mv w b s p w' ∧ OwnT w' w.heap.size A c ev.tags
def EvPost (w : World) (b : Nat) (s : ByteArray) (r : Res) (e : Ending) (w' : World) : Prop :=
  match r with
  | .bad p => EvFail w b s p e w'
  | .good ev => EvGood w b s ev e w'

/-- Where the reading of an event stands: the reader at k, the event's block g, all of it since w. -/
structure At (w : World) (b : Nat) (s : ByteArray) (g k : Nat) (n : ByteArray) (A : Option Addr) (l c : Nat) (kd v t : Int) (ts : Tags) (w1 : World) : Prop where
  mv : Mv w b s k w1
  ev : EvB w1 g n A l c kd v t
  own : ts.length = l ∧ OwnT w1 (g + 1) A c ts
  laid : Laid w1
section
variable {w w1 w2 : World} {b g k j : Nat} {s : ByteArray} {n : ByteArray} {A : Option Addr} {l c : Nat} {kd v t : Int} {ts : Tags}
theorem At.step (h : At w b s g k n A l c kd v t ts w1) (m : Mv w1 b s j w2) (hb7 : 6 ≤ b) (hbg : b < g) : At w b s g j n A l c kd v t ts w2 where
  mv := h.mv.trans m
  ev := h.ev.grown m.grown (Nat.ne_of_lt hbg)
  own := ⟨h.own.1, h.own.2.kept m.grown (by omega)⟩
  laid := h.laid.mv m hb7
theorem OwnT.set {w : World} {base : Nat} {A : Option Addr} {cap : Nat} {ts : Tags} (h : OwnT w base A cap ts) (a : Addr) (v : Value) (ha : a.block < base) : OwnT (w.setCell a v) base A cap ts :=
  h.kept (grown_set (grown_refl _ _) a v (Or.inl rfl)) ha
theorem At.put (h : At w b s g k n A l c kd v t ts w1) (o : Nat) (x : Value) (hb7 : 6 ≤ b) (hbg : b < g) (hg : w.heap.size ≤ g) {n' : ByteArray} {A' : Option Addr} {l' c' : Nat} {kd' v' t' : Int} {ts' : Tags}
    (he : EvB (w1.setCell ⟨g, o, none⟩ x) g n' A' l' c' kd' v' t') (ho : ts'.length = l' ∧ OwnT w1 (g + 1) A' c' ts') : At w b s g k n' A' l' c' kd' v' t' ts' (w1.setCell ⟨g, o, none⟩ x) where
  mv := ⟨grown_set h.mv.grown _ _ (Or.inr hg), h.mv.rd.other _ _ (Nat.ne_of_lt hbg)⟩
  ev := he
  own := ⟨ho.1, ho.2.set _ _ (Nat.lt_succ_self g)⟩
  laid := h.laid.set _ _ (by show 6 ≤ g; omega)
end

theorem Mv.put5 {w w1 : World} {b k g : Nat} {s : ByteArray} (h : Mv w b s k w1) (hb : b < w.heap.size) (hg : w.heap.size ≤ g) (v0 v1 v2 v3 v4 : Value) :
    Mv w b s k (((((w1.setCell ⟨g, 0, none⟩ v0).setCell ⟨g, 1, none⟩ v1).setCell ⟨g, 2, none⟩ v2).setCell ⟨g, 3, none⟩ v3).setCell ⟨g, 4, none⟩ v4) :=
  ((((h.put _ _ hb hg).put _ _ hb hg).put _ _ hb hg).put _ _ hb hg).put _ _ hb hg

theorem OwnT.drew {w : World} {base : Nat} {A : Option Addr} {cap : Nat} {ts : Tags} (h : OwnT w base A cap ts) (n : Nat) : OwnT (w.drewN n) base A cap ts := h
theorem OwnT.set5 {w : World} {base g : Nat} {A : Option Addr} {cap : Nat} {ts : Tags} (h : OwnT w base A cap ts) (hg : g < base) (v0 v1 v2 v3 v4 : Value) :
    OwnT (((((w.setCell ⟨g, 0, none⟩ v0).setCell ⟨g, 1, none⟩ v1).setCell ⟨g, 2, none⟩ v2).setCell ⟨g, 3, none⟩ v3).setCell ⟨g, 4, none⟩ v4) base A cap ts :=
  ((((h.set _ _ hg).set _ _ hg).set _ _ hg).set _ _ hg).set _ _ hg

set_option maxHeartbeats 4000000 in
theorem readEvent (w : World) (b : Nat) (s : ByteArray) (h : Rd w b s 0) (hL : Laid w) (hb7 : 6 ≤ b) (hs : s.size ≤ 300) :
    Calls Tryz.prog 74 #[.pointer (some ⟨b, 0, none⟩)] w (EvPost w b s (parseF s)) := by
  have hbw := h.lt
  have A0 : At w b s w.heap.size 0 ⟨#[]⟩ none 0 0 0 0 0 [] (w.alloc (.cells #[.string ⟨#[]⟩, .slice none 0 0, .int .i64 0, .int .i64 0, .int .i64 0] 78)) :=
    ⟨⟨World.grownBy_alloc _ _ _, h.alloc _⟩, heap_alloc_new w _, ⟨rfl, OwnT.nil _ _⟩, hL.alloc _⟩
  have HA0 := Lib.hid A0
  clear A0 h hL
  go_enter Tryz.func74, Tryz.ntmps74
  go_wp2_with fail
  rcases hw0 : wordAt s 0 with _ | a
  · have HX : Hid (parseF s = .bad 0) := Lib.hid (by unfold parseF; rw [hw0])
    have HW := Lib.hid hw0
    clear hw0
    refine (wordNo _ b s 0 HA0.out.mv.rd hs (Nat.zero_le _) HW.out).mono ?_
    rintro e w1 ⟨rfl, m1⟩
    have HA1 := Lib.hid (HA0.out.step m1 hb7 hbw)
    clear m1
    have c0 := HA1.out.ev.c0
    have c1 := HA1.out.ev.c1
    have c2 := HA1.out.ev.c2
    have c3 := HA1.out.ev.c3
    have c4 := HA1.out.ev.c4
    have f0 := HA1.out.ev.f 0
    have f1 := HA1.out.ev.f 1
    have f2 := HA1.out.ev.f 2
    have f3 := HA1.out.ev.f 3
    have f4 := HA1.out.ev.f 4
    go_wp2_with fail
    refine bodyPost_ret (v := .tuple #[evVal ⟨#[]⟩ none 0 0 0 0 0, .bool false]) (by simp [results, Tryz.results74, go_sem, evVal, c0, c1, c2, c3, c4]) rfl ?_
    rw [HX.out]
    exact ⟨_, _, _, _, _, _, _, rfl, (Mv.put (Mv.put (Mv.put (Mv.put (Mv.put (Mv.put HA1.out.mv _ _ hbw (Nat.le_refl _)) _ _ hbw (Nat.le_refl _)) _ _ hbw (Nat.le_refl _)) _ _ hbw (Nat.le_refl _)) _ _ hbw (Nat.le_refl _)) _ _ hbw (Nat.le_refl _))⟩
  have hx0 : parseF s = parseTags s a (tagsFrom s 6 a []) := by unfold parseF; rw [hw0]
  have has := (wordAt_le (Nat.zero_le _) hw0).2
  have HX0 := Lib.hid hx0
  have HW := Lib.hid hw0
  clear hw0 hx0
  refine (wordYes _ b s 0 a HA0.out.mv.rd hs (Nat.zero_le _) HW.out).mono ?_
  rintro e w1 ⟨rfl, m1⟩
  have HA1 := Lib.hid (HA0.out.step m1 hb7 hbw)
  clear m1
  have c0 := HA1.out.ev.c0
  have c1 := HA1.out.ev.c1
  have c2 := HA1.out.ev.c2
  have c3 := HA1.out.ev.c3
  have c4 := HA1.out.ev.c4
  have f0 := HA1.out.ev.f 0
  have f1 := HA1.out.ev.f 1
  have f2 := HA1.out.ev.f 2
  have f3 := HA1.out.ev.f 3
  have f4 := HA1.out.ev.f 4
  go_wp2_with fail
  clear c0 c1 c2 c3 c4 f0 f1 f2 f3 f4
  have HA2 := Lib.hid (HA1.out.put 0 (.string (s.extract 0 a)) hb7 hbw (Nat.le_refl _) (HA1.out.ev.set0 (s.extract 0 a)) HA1.out.own)
  clear HA1
  have CT := Lib.hid (readTags _ b s a HA2.out.mv.rd hs has)
  rcases htr : tagsFrom s 6 a [] with p | ⟨kb, ts⟩
  · have HX : Hid (parseF s = .bad p) := Lib.hid (by rw [HX0.out, htr]; rfl)
    rw [htr] at CT
    clear htr HX0
    refine CT.out.mono ?_
    rintro e w3 ⟨rfl, m3⟩
    have HA3 := Lib.hid (HA2.out.step m3 hb7 hbw)
    clear m3 CT
    have c0 := HA3.out.ev.c0
    have c1 := HA3.out.ev.c1
    have c2 := HA3.out.ev.c2
    have c3 := HA3.out.ev.c3
    have c4 := HA3.out.ev.c4
    have f0 := HA3.out.ev.f 0
    have f1 := HA3.out.ev.f 1
    have f2 := HA3.out.ev.f 2
    have f3 := HA3.out.ev.f 3
    have f4 := HA3.out.ev.f 4
    go_wp2_with fail
    refine bodyPost_ret (v := .tuple #[evVal (s.extract 0 a) none 0 0 0 0 0, .bool false]) (by simp [results, Tryz.results74, go_sem, evVal, c0, c1, c2, c3, c4]) rfl ?_
    rw [HX.out]
    exact ⟨_, _, _, _, _, _, _, rfl, (Mv.put (Mv.put (Mv.put (Mv.put (Mv.put (Mv.put HA3.out.mv _ _ hbw (Nat.le_refl _)) _ _ hbw (Nat.le_refl _)) _ _ hbw (Nat.le_refl _)) _ _ hbw (Nat.le_refl _)) _ _ hbw (Nat.le_refl _)) _ _ hbw (Nat.le_refl _))⟩
  rw [htr] at CT HX0
  clear htr
  by_cases h32 : chr s kb = 32
  case neg =>
    have HX : Hid (parseF s = .bad kb) := Lib.hid (by rw [HX0.out]; simp only [parseTags, parseKind, h32, if_false])
    refine (CT.out.mono (fun e w' hp => by unfold TagsPost at hp; simp only [h32, if_false] at hp; exact hp : ∀ e w', _ → TagsBad _ b s kb e w')).mono ?_
    clear h32
    rintro e w3 ⟨rfl, m3⟩
    have HA3 := Lib.hid (HA2.out.step m3 hb7 hbw)
    clear m3 CT
    have c0 := HA3.out.ev.c0
    have c1 := HA3.out.ev.c1
    have c2 := HA3.out.ev.c2
    have c3 := HA3.out.ev.c3
    have c4 := HA3.out.ev.c4
    have f0 := HA3.out.ev.f 0
    have f1 := HA3.out.ev.f 1
    have f2 := HA3.out.ev.f 2
    have f3 := HA3.out.ev.f 3
    have f4 := HA3.out.ev.f 4
    go_wp2_with fail
    refine bodyPost_ret (v := .tuple #[evVal (s.extract 0 a) none 0 0 0 0 0, .bool false]) (by simp [results, Tryz.results74, go_sem, evVal, c0, c1, c2, c3, c4]) rfl ?_
    rw [HX.out]
    exact ⟨_, _, _, _, _, _, _, rfl, (Mv.put (Mv.put (Mv.put (Mv.put (Mv.put (Mv.put HA3.out.mv _ _ hbw (Nat.le_refl _)) _ _ hbw (Nat.le_refl _)) _ _ hbw (Nat.le_refl _)) _ _ hbw (Nat.le_refl _)) _ _ hbw (Nat.le_refl _)) _ _ hbw (Nat.le_refl _))⟩
  have hks : kb < s.size := chr_lt_size (by omega)
  refine (CT.out.mono (fun e w' hp => by unfold TagsPost at hp; simp only [h32, if_true] at hp; exact hp : ∀ e w', _ → TagsOk _ b s kb ts e w')).mono ?_
  rintro e w3 ⟨TA, tc, rfl, m3, o3⟩
  have HA3 := Lib.hid (HA2.out.step m3 hb7 hbw)
  have HO3 := Lib.hid (show OwnT w3 (w.heap.size + 1) TA tc ts from o3.mono (by have := HA2.out.mv.grown.size; have := lt_of_block HA2.out.ev; omega))
  have HX1 : Hid (parseF s = parseKind s a ts kb) := Lib.hid HX0.out
  have H32 := Lib.hid h32
  clear m3 o3 CT HX0 h32
  have c0 := HA3.out.ev.c0
  have c1 := HA3.out.ev.c1
  have c2 := HA3.out.ev.c2
  have c3 := HA3.out.ev.c3
  have c4 := HA3.out.ev.c4
  have f0 := HA3.out.ev.f 0
  have f1 := HA3.out.ev.f 1
  have f2 := HA3.out.ev.f 2
  have f3 := HA3.out.ev.f 3
  have f4 := HA3.out.ev.f 4
  go_wp2_with fail
  clear c0 c1 c2 c3 c4 f0 f1 f2 f3 f4
  have HA4 := Lib.hid (HA3.out.put 1 (.slice TA ts.length tc) hb7 hbw (Nat.le_refl _) (HA3.out.ev.set1 TA ts.length tc) ⟨rfl, HO3.out⟩)
  clear HA3 HO3
  refine (passYes _ b s kb 32 HA4.out.mv.rd hs hks (by rw [H32.out]; rfl)).mono ?_
  rintro e w5 ⟨rfl, m5⟩
  have HA5 := Lib.hid (HA4.out.step m5 hb7 hbw)
  clear m5
  go_wp2_with fail
  rcases hkd : kindOf (chr s (kb + 1)) with _ | kd
  · have HX : Hid (parseF s = .bad (kb + 1)) := Lib.hid (by rw [HX1.out, parseKind, if_pos H32.out, hkd])
    have HK := Lib.hid hkd
    clear hkd
    refine (kindNo _ b s (kb + 1) HA5.out.mv.rd hs (by omega) HK.out).mono ?_
    rintro e w6 ⟨rfl, m6⟩
    have HA6 := Lib.hid (HA5.out.step m6 hb7 hbw)
    clear m6
    have c0 := HA6.out.ev.c0
    have c1 := HA6.out.ev.c1
    have c2 := HA6.out.ev.c2
    have c3 := HA6.out.ev.c3
    have c4 := HA6.out.ev.c4
    have f0 := HA6.out.ev.f 0
    have f1 := HA6.out.ev.f 1
    have f2 := HA6.out.ev.f 2
    have f3 := HA6.out.ev.f 3
    have f4 := HA6.out.ev.f 4
    go_wp2_with fail
    refine bodyPost_ret (v := .tuple #[evVal (s.extract 0 a) TA ts.length tc 0 0 0, .bool false]) (by simp [results, Tryz.results74, go_sem, evVal, c0, c1, c2, c3, c4]) rfl ?_
    rw [HX.out]
    exact ⟨_, _, _, _, _, _, _, rfl, (Mv.put (Mv.put (Mv.put (Mv.put (Mv.put (Mv.put HA6.out.mv _ _ hbw (Nat.le_refl _)) _ _ hbw (Nat.le_refl _)) _ _ hbw (Nat.le_refl _)) _ _ hbw (Nat.le_refl _)) _ _ hbw (Nat.le_refl _)) _ _ hbw (Nat.le_refl _))⟩
  have HX2 : Hid (parseF s = parseNum s a ts kd (kb + 1 + 1)) := Lib.hid (by rw [HX1.out, parseKind, if_pos H32.out, hkd])
  have hks2 : kb + 1 < s.size := chr_lt_size (fun h0 => by rw [h0] at hkd; cases hkd)
  have HK := Lib.hid hkd
  clear hkd HX1
  refine (kindYes _ b s (kb + 1) kd HA5.out.mv.rd hs hks2 HK.out).mono ?_
  rintro e w6 ⟨rfl, m6⟩
  have HA6 := Lib.hid (HA5.out.step m6 hb7 hbw)
  clear m6
  have c0 := HA6.out.ev.c0
  have c1 := HA6.out.ev.c1
  have c2 := HA6.out.ev.c2
  have c3 := HA6.out.ev.c3
  have c4 := HA6.out.ev.c4
  have f0 := HA6.out.ev.f 0
  have f1 := HA6.out.ev.f 1
  have f2 := HA6.out.ev.f 2
  have f3 := HA6.out.ev.f 3
  have f4 := HA6.out.ev.f 4
  go_wp2_with fail
  clear c0 c1 c2 c3 c4 f0 f1 f2 f3 f4
  have HA7 := Lib.hid (HA6.out.put 2 (.int .i64 kd) hb7 hbw (Nat.le_refl _) (HA6.out.ev.set2 kd) HA6.out.own)
  clear HA6
  by_cases h33 : chr s (kb + 1 + 1) = 32
  case neg =>
    have HX : Hid (parseF s = .bad (kb + 1 + 1)) := Lib.hid (by rw [HX2.out, parseNum, if_neg h33])
    have H33 := Lib.hid h33
    clear h33
    refine (passNo _ b s (kb + 1 + 1) 32 HA7.out.mv.rd hs (by omega) (by intro h; exact H33.out (by omega))).mono ?_
    rintro e w8 ⟨rfl, m8⟩
    have HA8 := Lib.hid (HA7.out.step m8 hb7 hbw)
    clear m8
    have c0 := HA8.out.ev.c0
    have c1 := HA8.out.ev.c1
    have c2 := HA8.out.ev.c2
    have c3 := HA8.out.ev.c3
    have c4 := HA8.out.ev.c4
    have f0 := HA8.out.ev.f 0
    have f1 := HA8.out.ev.f 1
    have f2 := HA8.out.ev.f 2
    have f3 := HA8.out.ev.f 3
    have f4 := HA8.out.ev.f 4
    go_wp2_with fail
    refine bodyPost_ret (v := .tuple #[evVal (s.extract 0 a) TA ts.length tc kd 0 0, .bool false]) (by simp [results, Tryz.results74, go_sem, evVal, c0, c1, c2, c3, c4]) rfl ?_
    rw [HX.out]
    exact ⟨_, _, _, _, _, _, _, rfl, (Mv.put (Mv.put (Mv.put (Mv.put (Mv.put HA8.out.mv _ _ hbw (Nat.le_refl _)) _ _ hbw (Nat.le_refl _)) _ _ hbw (Nat.le_refl _)) _ _ hbw (Nat.le_refl _)) _ _ hbw (Nat.le_refl _))⟩
  have hks3 : kb + 1 + 1 < s.size := chr_lt_size (by omega)
  have H33 := Lib.hid h33
  clear h33
  refine (passYes _ b s (kb + 1 + 1) 32 HA7.out.mv.rd hs hks3 (by rw [H33.out]; rfl)).mono ?_
  rintro e w8 ⟨rfl, m8⟩
  have HA8 := Lib.hid (HA7.out.step m8 hb7 hbw)
  clear m8
  go_wp2_with fail
  have CN := Lib.hid (readNum _ b s (kb + 1 + 1 + 1) (-9223372036854775808) 9223372036854775807 HA8.out.mv.rd HA8.out.laid hb7 hs (by omega) (by omega) (by omega) (by omega) (by omega))
  rcases hn1 : numAt s (kb + 1 + 1 + 1) (-9223372036854775808) 9223372036854775807 with _ | v
  · have HX : Hid (parseF s = .bad (kb + 1 + 1 + 1)) := Lib.hid (by rw [HX2.out, parseNum, if_pos H33.out, hn1])
    rw [hn1] at CN
    clear hn1
    refine CN.out.mono ?_
    rintro e w9 ⟨rfl, m9⟩
    have HA9 := Lib.hid (HA8.out.step m9 hb7 hbw)
    clear m9 CN
    have c0 := HA9.out.ev.c0
    have c1 := HA9.out.ev.c1
    have c2 := HA9.out.ev.c2
    have c3 := HA9.out.ev.c3
    have c4 := HA9.out.ev.c4
    have f0 := HA9.out.ev.f 0
    have f1 := HA9.out.ev.f 1
    have f2 := HA9.out.ev.f 2
    have f3 := HA9.out.ev.f 3
    have f4 := HA9.out.ev.f 4
    go_wp2_with fail
    refine bodyPost_ret (v := .tuple #[evVal (s.extract 0 a) TA ts.length tc kd 0 0, .bool false]) (by simp [results, Tryz.results74, go_sem, evVal, c0, c1, c2, c3, c4]) rfl ?_
    rw [HX.out]
    exact ⟨_, _, _, _, _, _, _, rfl, (Mv.put (Mv.put (Mv.put (Mv.put (Mv.put (Mv.put HA9.out.mv _ _ hbw (Nat.le_refl _)) _ _ hbw (Nat.le_refl _)) _ _ hbw (Nat.le_refl _)) _ _ hbw (Nat.le_refl _)) _ _ hbw (Nat.le_refl _)) _ _ hbw (Nat.le_refl _))⟩
  have HX3 : Hid (parseF s = parseEnd s a ts kd v (numEnd s (kb + 1 + 1 + 1))) := Lib.hid (by rw [HX2.out, parseNum, if_pos H33.out, hn1])
  have hle := numEnd_le (s := s) (k := kb + 1 + 1 + 1) (by omega)
  rw [hn1] at CN
  clear hn1 HX2
  generalize numEnd s (kb + 1 + 1 + 1) = kc at CN HX3 hle
  obtain ⟨hle0, hle1⟩ := hle
  refine CN.out.mono ?_
  rintro e w9 ⟨rfl, m9⟩
  have HA9 := Lib.hid (HA8.out.step m9 hb7 hbw)
  clear m9 CN
  have c0 := HA9.out.ev.c0
  have c1 := HA9.out.ev.c1
  have c2 := HA9.out.ev.c2
  have c3 := HA9.out.ev.c3
  have c4 := HA9.out.ev.c4
  have f0 := HA9.out.ev.f 0
  have f1 := HA9.out.ev.f 1
  have f2 := HA9.out.ev.f 2
  have f3 := HA9.out.ev.f 3
  have f4 := HA9.out.ev.f 4
  go_wp2_with fail
  clear c0 c1 c2 c3 c4 f0 f1 f2 f3 f4
  have HA10 := Lib.hid (HA9.out.put 3 (.int .i64 v) hb7 hbw (Nat.le_refl _) (HA9.out.ev.set3 v) HA9.out.own)
  clear HA9
  by_cases h34 : chr s kc = 32
  case neg =>
    have HX : Hid (parseF s = .bad kc) := Lib.hid (by rw [HX3.out, parseEnd, if_neg h34])
    have H34 := Lib.hid h34
    clear h34
    refine (passNo _ b s kc 32 HA10.out.mv.rd hs hle1 (by intro h; exact H34.out (by omega))).mono ?_
    rintro e w11 ⟨rfl, m11⟩
    have HA11 := Lib.hid (HA10.out.step m11 hb7 hbw)
    clear m11
    have c0 := HA11.out.ev.c0
    have c1 := HA11.out.ev.c1
    have c2 := HA11.out.ev.c2
    have c3 := HA11.out.ev.c3
    have c4 := HA11.out.ev.c4
    have f0 := HA11.out.ev.f 0
    have f1 := HA11.out.ev.f 1
    have f2 := HA11.out.ev.f 2
    have f3 := HA11.out.ev.f 3
    have f4 := HA11.out.ev.f 4
    go_wp2_with fail
    refine bodyPost_ret (v := .tuple #[evVal (s.extract 0 a) TA ts.length tc kd v 0, .bool false]) (by simp [results, Tryz.results74, go_sem, evVal, c0, c1, c2, c3, c4]) rfl ?_
    rw [HX.out]
    exact ⟨_, _, _, _, _, _, _, rfl, (Mv.put (Mv.put (Mv.put (Mv.put (Mv.put HA11.out.mv _ _ hbw (Nat.le_refl _)) _ _ hbw (Nat.le_refl _)) _ _ hbw (Nat.le_refl _)) _ _ hbw (Nat.le_refl _)) _ _ hbw (Nat.le_refl _))⟩
  have hks4 : kc < s.size := chr_lt_size (by omega)
  have H34 := Lib.hid h34
  clear h34
  refine (passYes _ b s kc 32 HA10.out.mv.rd hs hks4 (by rw [H34.out]; rfl)).mono ?_
  rintro e w11 ⟨rfl, m11⟩
  have HA11 := Lib.hid (HA10.out.step m11 hb7 hbw)
  clear m11
  go_wp2_with fail
  have CM := Lib.hid (readNum _ b s (kc + 1) 0 1099511627776 HA11.out.mv.rd HA11.out.laid hb7 hs (by omega) (by omega) (by omega) (by omega) (by omega))
  rcases hn2 : numAt s (kc + 1) 0 1099511627776 with _ | tm
  · have HX : Hid (parseF s = .bad (kc + 1)) := Lib.hid (by rw [HX3.out, parseEnd, if_pos H34.out, hn2])
    rw [hn2] at CM
    clear hn2
    refine CM.out.mono ?_
    rintro e w12 ⟨rfl, m12⟩
    have HA12 := Lib.hid (HA11.out.step m12 hb7 hbw)
    clear m12 CM
    have c0 := HA12.out.ev.c0
    have c1 := HA12.out.ev.c1
    have c2 := HA12.out.ev.c2
    have c3 := HA12.out.ev.c3
    have c4 := HA12.out.ev.c4
    have f0 := HA12.out.ev.f 0
    have f1 := HA12.out.ev.f 1
    have f2 := HA12.out.ev.f 2
    have f3 := HA12.out.ev.f 3
    have f4 := HA12.out.ev.f 4
    go_wp2_with fail
    clear c0 c1 c2 c3 c4 f0 f1 f2 f3 f4
    have hA := HA12.out.put 4 (.int .i64 0) hb7 hbw (Nat.le_refl _) (HA12.out.ev.set4 0) HA12.out.own
    generalize w12.setCell ⟨w.heap.size, 4, none⟩ (.int .i64 0) = w13 at hA ⊢
    have HA13 := Lib.hid hA
    clear hA HA12
    have c0 := HA13.out.ev.c0
    have c1 := HA13.out.ev.c1
    have c2 := HA13.out.ev.c2
    have c3 := HA13.out.ev.c3
    have c4 := HA13.out.ev.c4
    have f0 := HA13.out.ev.f 0
    have f1 := HA13.out.ev.f 1
    have f2 := HA13.out.ev.f 2
    have f3 := HA13.out.ev.f 3
    have f4 := HA13.out.ev.f 4
    go_region
    all_goals go_wp2_with fail
    all_goals
      refine bodyPost_ret (v := .tuple #[evVal (s.extract 0 a) TA ts.length tc kd v 0, .bool false]) (by simp [results, Tryz.results74, go_sem, evVal, c0, c1, c2, c3, c4]) rfl ?_
      rw [HX.out]
      exact ⟨_, _, _, _, _, _, _, rfl, ((Mv.put (Mv.put (Mv.put (Mv.put (Mv.put HA13.out.mv _ _ hbw (Nat.le_refl _)) _ _ hbw (Nat.le_refl _)) _ _ hbw (Nat.le_refl _)) _ _ hbw (Nat.le_refl _)) _ _ hbw (Nat.le_refl _))).drew1⟩
  have HX4 : Hid (parseF s = if numEnd s (kc + 1) < s.size then .bad (numEnd s (kc + 1)) else .good ⟨s.extract 0 a, ts, kd, v, tm⟩) := Lib.hid (by rw [HX3.out, parseEnd, if_pos H34.out, hn2])
  have hlf := numEnd_le (s := s) (k := kc + 1) (by omega)
  rw [hn2] at CM
  clear hn2 HX3
  generalize numEnd s (kc + 1) = ke at CM HX4 hlf
  obtain ⟨hlf0, hlf1⟩ := hlf
  refine CM.out.mono ?_
  rintro e w12 ⟨rfl, m12⟩
  have HA12 := Lib.hid (HA11.out.step m12 hb7 hbw)
  clear m12 CM
  have c0 := HA12.out.ev.c0
  have c1 := HA12.out.ev.c1
  have c2 := HA12.out.ev.c2
  have c3 := HA12.out.ev.c3
  have c4 := HA12.out.ev.c4
  have f0 := HA12.out.ev.f 0
  have f1 := HA12.out.ev.f 1
  have f2 := HA12.out.ev.f 2
  have f3 := HA12.out.ev.f 3
  have f4 := HA12.out.ev.f 4
  go_wp2_with fail
  clear c0 c1 c2 c3 c4 f0 f1 f2 f3 f4
  have hA := HA12.out.put 4 (.int .i64 tm) hb7 hbw (Nat.le_refl _) (HA12.out.ev.set4 tm) HA12.out.own
  generalize w12.setCell ⟨w.heap.size, 4, none⟩ (.int .i64 tm) = w13 at hA ⊢
  have HA13 := Lib.hid hA
  clear hA HA12 HA11 HA10 HA8 HA7 HA5 HA4 HA2 HA0
  have c0 := HA13.out.ev.c0
  have c1 := HA13.out.ev.c1
  have c2 := HA13.out.ev.c2
  have c3 := HA13.out.ev.c3
  have c4 := HA13.out.ev.c4
  have f0 := HA13.out.ev.f 0
  have f1 := HA13.out.ev.f 1
  have f2 := HA13.out.ev.f 2
  have f3 := HA13.out.ev.f 3
  have f4 := HA13.out.ev.f 4
  have R0 := Lib.hid (HA13.out.mv.drew1.rd)
  have R5 := Lib.hid ((HA13.out.mv.put5 hbw (Nat.le_refl _) (.string (s.extract 0 a)) (.slice TA ts.length tc) (.int .i64 kd) (.int .i64 v) (.int .i64 tm)).drew1.rd)
  by_cases hend : ke = s.size
  · have HX : Hid (parseF s = .good ⟨s.extract 0 a, ts, kd, v, tm⟩) := Lib.hid (by rw [HX4.out, if_neg (by omega)])
    have ed : decide (ke = s.size) = true := decide_eq_true hend
    clear hend HX4
    go_region_with (go_at_call 88; refine (readEnds _ b s ke ?_ hs hlf1).mono ?_; (first | exact R0.out | exact R5.out); rw [ed]; rintro e w' ⟨rfl, n, rfl⟩)
    all_goals go_wp2_with fail
    all_goals
      refine bodyPost_ret (v := .tuple #[evVal (s.extract 0 a) TA ts.length tc kd v tm, .bool true]) (by simp [results, Tryz.results74, go_sem, evVal, c0, c1, c2, c3, c4]) rfl ?_
      rw [HX.out]
      exact ⟨TA, tc, ke, rfl, (HA13.out.mv.drew _).put5 hbw (Nat.le_refl _) _ _ _ _ _, (OwnT.set5 (HA13.out.own.2.drew _) (Nat.lt_succ_self _) _ _ _ _ _).mono (Nat.le_succ _)⟩
  · have HX : Hid (parseF s = .bad ke) := Lib.hid (by rw [HX4.out, if_pos (by omega)])
    have ed : decide (ke = s.size) = false := decide_eq_false hend
    clear hend HX4
    go_region_with (go_at_call 88; refine (readEnds _ b s ke ?_ hs hlf1).mono ?_; (first | exact R0.out | exact R5.out); rw [ed]; rintro e w' ⟨rfl, n, rfl⟩)
    all_goals go_wp2_with fail
    all_goals
      refine bodyPost_ret (v := .tuple #[evVal (s.extract 0 a) TA ts.length tc kd v tm, .bool false]) (by simp [results, Tryz.results74, go_sem, evVal, c0, c1, c2, c3, c4]) rfl ?_
      rw [HX.out]
      exact ⟨_, _, _, _, _, _, _, rfl, (HA13.out.mv.drew _).put5 hbw (Nat.le_refl _) _ _ _ _ _⟩
end Go.Proofs.YtedhciolnekpaaaGreatDoor
