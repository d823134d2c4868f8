/-
  Layer 7 (batch), of no program: which texts are keys, as the document's own Of tells it (tags laid in one by one), is as series.Of tells it. Tags in rows of one's own: rows appended whole, and parts of them. Layer 7 (batch): the document's own Canon (layer 5's), of an event that may be: its tags laid in one by one. Layer 7 (batch): the document's own Key and Of (layer 5's): whether a text is a key. Layer 7 (batch): the document's own Row and May (P7.1): whether a row, a batch may be.
-/
import Derived.Test.YtgeahpfdaehjaaaGreatDoorGrpI
import Derived.Test.YtgeahpfdaehjaaaGreatDoorQLineMay2
import Derived.Deep.LoopGhost
import Derived.Test.YtgeahpfdaehjaaaGreatDoorQLineRefP
import Derived.Test.YtgeahpfdaehjaaaGreatDoorGrpH
import Derived.Test.YtgeahpfdaehjaaaGreatDoorQBatchPut
namespace Go.Proofs.YtgeahpfdaehjaaaGreatDoor
open Go.RowKit Go.Sort
set_option linter.unusedVariables false

def insAt (l : Tags) (t : ByteArray × ByteArray) : Nat := (l.takeWhile (fun x => ltK x t)).length
/-- A tag laid among others; none: its key is there. -/
def insT (l : Tags) (t : ByteArray × ByteArray) : Option Tags :=
  match l[insAt l t]? with
  | some x => if keyOf x = keyOf t then none else some (l.take (insAt l t) ++ t :: l.drop (insAt l t))
  | none => some (l.take (insAt l t) ++ t :: l.drop (insAt l t))
def canonT : Tags → Tags → Option Tags
  | acc, [] => some acc
  | acc, t :: ts => match insT acc t with | none => none | some a => canonT a ts
theorem insT_some {l l' : Tags} {t : ByteArray × ByteArray} (h : insT l t = some l') : l' = l.take (insAt l t) ++ t :: l.drop (insAt l t) ∧ ∀ x, l[insAt l t]? = some x → keyOf x ≠ keyOf t := by
  unfold insT at h
  cases hx : l[insAt l t]? with
  | none => rw [hx] at h; cases h; exact ⟨rfl, fun x h => by cases h⟩
  | some x =>
    rw [hx] at h
    simp only at h
    split at h
    · cases h
    · rename_i hne
      cases h
      exact ⟨rfl, fun y hy => by cases hy; exact hne⟩
theorem take_ins (l : Tags) (t : ByteArray × ByteArray) : l.take (insAt l t) = l.takeWhile (fun x => ltK x t) := by
  have h := List.take_left (l₁ := l.takeWhile (fun x => ltK x t)) (l₂ := l.dropWhile (fun x => ltK x t))
  rw [List.takeWhile_append_dropWhile] at h
  exact h
theorem drop_ins (l : Tags) (t : ByteArray × ByteArray) : l.drop (insAt l t) = l.dropWhile (fun x => ltK x t) := by
  have h := List.drop_left (l₁ := l.takeWhile (fun x => ltK x t)) (l₂ := l.dropWhile (fun x => ltK x t))
  rw [List.takeWhile_append_dropWhile] at h
  exact h
theorem takeWhile_all {l : Tags} {p : ByteArray × ByteArray → Bool} (h : ∀ x ∈ l, p x = true) : l.takeWhile p = l := by
  induction l with
  | nil => rfl
  | cons a l ih =>
    rw [List.takeWhile_cons, if_pos (h a (by simp)), ih (fun x hx => h x (by simp [hx]))]
theorem takeWhile_mem {l : Tags} {p : ByteArray × ByteArray → Bool} : ∀ x ∈ l.takeWhile p, p x = true := by
  induction l with
  | nil => simp
  | cons a l ih =>
    intro x hx
    rw [List.takeWhile_cons] at hx
    split at hx
    · rename_i ha
      rcases List.mem_cons.1 hx with rfl | hx
      · exact ha
      · exact ih x hx
    · simp at hx
theorem dropWhile_head {l : Tags} {p : ByteArray × ByteArray → Bool} {b : ByteArray × ByteArray} {r : Tags} (h : l.dropWhile p = b :: r) : p b = false := by
  induction l with
  | nil => simp at h
  | cons a l ih =>
    rw [List.dropWhile_cons] at h
    split at h
    · exact ih h
    · rename_i ha
      cases h
      simpa using ha
theorem insT_rise {l l' : Tags} {t : ByteArray × ByteArray} (h : insT l t = some l') (hl : riseB l = true) : riseB l' = true ∧ l'.Perm (t :: l) := by
  obtain ⟨e, hne⟩ := insT_some h
  have hsplit : l.take (insAt l t) ++ l.drop (insAt l t) = l := List.take_append_drop _ _
  constructor
  · have hp := rise_pair l hl
    rw [← hsplit, List.pairwise_append] at hp
    obtain ⟨pA, pB, pAB⟩ := hp
    have hA : ∀ x ∈ l.take (insAt l t), ltK x t = true := by rw [take_ins]; exact takeWhile_mem
    have hB : ∀ x ∈ l.drop (insAt l t), ltK t x = true := by
      cases hd : l.drop (insAt l t) with
      | nil => intro x hx; simp at hx
      | cons b r =>
        have h0 : ltK b t = false := dropWhile_head (l := l) (p := fun x => ltK x t) (b := b) (r := r) (by rw [← drop_ins]; exact hd)
        have h1 : l[insAt l t]? = some b := by
          have := congrArg (fun z => z[0]?) hd
          simpa [List.getElem?_drop] using this
        have hk := hne b h1
        have hb : ltK t b = true := by
          simp only [ltK, decide_eq_true_eq, decide_eq_false_iff_not, List.not_lt] at h0 ⊢
          exact List.not_le.1 fun h3 => hk (List.le_antisymm h3 h0)
        intro x hx
        rcases List.mem_cons.1 hx with rfl | hx
        · exact hb
        · rw [hd] at pB
          exact swo_key.trans _ _ _ hb (List.rel_of_pairwise_cons pB hx)
    rw [e]
    refine pair_rise ?_
    rw [List.pairwise_append]
    refine ⟨pA, List.Pairwise.cons hB pB, fun a ha x hx => ?_⟩
    rcases List.mem_cons.1 hx with rfl | hx
    · exact hA a ha
    · exact pAB a ha x hx
  · rw [e]
    refine List.perm_middle.trans ?_
    rw [hsplit]
theorem canonT_rise : ∀ (ts acc l' : Tags), canonT acc ts = some l' → riseB acc = true → riseB l' = true ∧ l'.Perm (acc ++ ts)
  | [], acc, l', h, ha => by rw [canonT] at h; cases h; exact ⟨ha, by simp⟩
  | t :: ts, acc, l', h, ha => by
    rw [canonT] at h
    cases hi : insT acc t with
    | none => rw [hi] at h; cases h
    | some a =>
      rw [hi] at h
      obtain ⟨h1, h2⟩ := insT_rise hi ha
      obtain ⟨h3, h4⟩ := canonT_rise ts a l' h h1
      refine ⟨h3, h4.trans ?_⟩
      exact (h2.append_right ts).trans List.perm_middle.symm
theorem insT_last {l : Tags} {t : ByteArray × ByteArray} (h : riseB (l ++ [t]) = true) : insT l t = some (l ++ [t]) := by
  have hp := rise_pair _ h
  rw [List.pairwise_append] at hp
  have hA : ∀ x ∈ l, ltK x t = true := fun x hx => hp.2.2 x hx t (by simp)
  have he : insAt l t = l.length := by
    unfold insAt
    rw [takeWhile_all (fun x hx => hA x hx)]
  unfold insT
  rw [he, List.getElem?_eq_none (Nat.le_refl _)]
  simp
theorem canonT_self : ∀ (ts acc : Tags), riseB (acc ++ ts) = true → canonT acc ts = some (acc ++ ts)
  | [], acc, _ => by simp [canonT]
  | t :: ts, acc, h => by
    have e : acc ++ t :: ts = (acc ++ [t]) ++ ts := by simp
    rw [canonT, insT_last (pair_rise (by
      have := rise_pair _ h
      rw [e] at this
      exact (List.pairwise_append.1 this).1))]
    simp only
    rw [canonT_self ts (acc ++ [t]) (by rw [← e]; exact h), e]

/-- A key's text is the head of its line. -/
theorem dec_nosp (u : Nat) : ∀ c ∈ Lib.decDigits u, c ≠ 32 := fun c hc e => by
  have := dec_digits u c hc
  rw [e] at this
  exact absurd this (by decide)
theorem itoa_nosp (v : Int) : ∀ c ∈ Lib.itoa v, c ≠ 32 := by
  unfold Lib.itoa
  split
  · intro c hc
    rcases List.mem_cons.1 hc with rfl | hc
    · decide
    · exact dec_nosp _ c hc
  · exact dec_nosp _
theorem count_nosp {l : List UInt8} (h : ∀ c ∈ l, c ≠ 32) : l.count 32 = 0 := List.count_eq_zero.2 (fun hm => h 32 hm rfl)
theorem letter_nosp (k : Int) : letter k ≠ 32 := by unfold letter; split <;> (try split) <;> decide
theorem split_sp : ∀ (a b x y : List UInt8), (∀ c ∈ a, c ≠ 32) → (∀ c ∈ b, c ≠ 32) → a ++ 32 :: x = b ++ 32 :: y → a = b
  | [], [], _, _, _, _, _ => rfl
  | [], c :: b, _, _, _, hb, h => by
    have : c = 32 := by simpa using (List.cons.inj h).1.symm
    exact absurd this (hb c (by simp))
  | c :: a, [], _, _, ha, _, h => by
    have : c = 32 := by simpa using (List.cons.inj h).1
    exact absurd this (ha c (by simp))
  | c :: a, d :: b, x, y, ha, hb, h => by
    obtain ⟨h1, h2⟩ := List.cons.inj h
    rw [h1, split_sp a b x y (fun z hz => ha z (by simp [hz])) (fun z hz => hb z (by simp [hz])) h2]
theorem key_head {s : ByteArray} {ev : Ev} (h : parseF (s ++ restB) = .good ev) : headL ev.name ev.tags = s.data.toList ∧ mayB ev.name ev.tags 1 0 = true := by
  obtain ⟨hm, _, _, hp⟩ := print_parse h
  have hm1 := may_of hm
  have hm1' := hm1
  unfold mayB at hm1'
  simp only [Bool.and_eq_true] at hm1'
  have hh := head_no hm1'.1.1.1 hm1'.1.2
  have e : (s ++ restB).data.toList = s.data.toList ++ 32 :: [99, 32, 48, 32, 48] := by
    rw [ByteArray.data_append, Array.toList_append]; rfl
  rw [e] at hp
  unfold printL at hp
  have hc := congrArg (List.count 32) hp
  have hl : [letter ev.kind].count 32 = 0 := count_nosp (fun c hc => by
    obtain rfl : c = letter ev.kind := by simpa using hc
    exact letter_nosp _)
  have h32 : ([32] : List UInt8).count 32 = 1 := by decide
  have hrs : ([32, 99, 32, 48, 32, 48] : List UInt8).count 32 = 3 := by decide
  rw [List.count_append, List.count_append, List.count_append, List.count_append, List.count_append, List.count_append, List.count_append, count_nosp hh, count_nosp (itoa_nosp _), count_nosp (itoa_nosp _), hl, h32, hrs] at hc
  have hs0 : s.data.toList.count 32 = 0 := by omega
  have hs : ∀ c ∈ s.data.toList, c ≠ 32 := fun c hc e => by
    subst e
    exact (List.count_eq_zero.1 hs0) hc
  refine ⟨split_sp _ _ ([letter ev.kind] ++ [32] ++ Lib.itoa ev.value ++ [32] ++ Lib.itoa ev.time) [99, 32, 48, 32, 48] hh hs ?_, hm1⟩
  rw [← hp]
  simp
/-- What the document's own Of tells. -/
def refKey (s : ByteArray) (ev : Ev) : Bool := match canonT [] ev.tags with | none => false | some l' => decide (headL ev.name l' = s.data.toList)
theorem refKey_eq {s : ByteArray} {ev : Ev} (h : parseF (s ++ restB) = .good ev) : refKey s ev = riseB ev.tags := by
  obtain ⟨hh, hm⟩ := key_head h
  unfold refKey
  cases hr : riseB ev.tags with
  | true =>
    rw [show canonT [] ev.tags = some ev.tags by have := canonT_self ev.tags [] (by simpa using hr); simpa using this]
    simp only
    exact decide_eq_true hh
  | false =>
    cases hc : canonT [] ev.tags with
    | none => rfl
    | some l' =>
      simp only
      obtain ⟨h1, h2⟩ := canonT_rise ev.tags [] l' hc rfl
      rw [List.nil_append] at h2
      refine decide_eq_false (fun he => ?_)
      have hp := parse_print (n := ev.name) (ts := l') (k := 1) (v := 0) (t := 0) (by rw [may_perm h2]; exact hm) (by omega) (by omega)
      rw [print_rest, he] at hp
      have e : (⟨(s.data.toList ++ restL).toArray⟩ : ByteArray) = s ++ restB := by
        refine ba_ext ?_
        rw [ByteArray.data_append, Array.toList_append]
        simp [restL, restB]
      rw [e, h] at hp
      have : ev.tags = l' := by
        have := Res.good.inj hp
        rw [this]
      rw [this, h1] at hr
      cases hr
end Go.Proofs.YtgeahpfdaehjaaaGreatDoor
namespace Go.Proofs.YtgeahpfdaehjaaaGreatDoor
open Go.ChangeShapes Go.WideShapes Go.ChangeAt Go.RowKit
set_option linter.unusedVariables false

/-- A slice of tags, nil or not, that reads as this list. -/
structure RdC (w : World) (A : Option Addr) (cap : Nat) (ts : Tags) : Prop where
  le : ts.length ≤ cap
  nn : A = none → cap = 0
  rd : ∀ ad, A = some ad → ∀ (j : Nat) (u : Value), (tagCells ts)[j]? = some u → w.cell? (ad.add j) = some u
theorem RdC.below {w w' : World} {B : Nat} {A : Option Addr} {cap : Nat} {ts : Tags} (h : RdC w A cap ts) (hb : Below B w w') (hB : w.heap.size ≤ B) : RdC w' A cap ts :=
  ⟨h.le, h.nn, fun ad ha j u hu => by
    have h1 := h.rd ad ha j u hu
    have h2 := World.block_lt_of_cell? w _ h1
    rw [hb.cell (by omega)]; exact h1⟩
theorem tagCells_app (x y : Tags) : tagCells (x ++ y) = tagCells x ++ tagCells y := by simp [tagCells]
theorem OwnT.rc {w : World} {base : Nat} {A : Option Addr} {cap : Nat} {ts : Tags} (h : OwnT w base A cap ts) : RdC w A cap ts := by
  rcases h.2 with ⟨hv, hn⟩ | ⟨g, cap', cur, hv, hb, hg, hnc, hcm, hcs, htake⟩
  · obtain rfl := List.eq_nil_of_length_eq_zero hn
    cases hv
    exact ⟨Nat.le_refl _, fun _ => rfl, fun _ h => by cases h⟩
  · have hA : A = some ⟨g, 0, none⟩ := by cases hv; rfl
    have hc : cap = cap' := by cases hv; rfl
    subst hA hc
    refine ⟨hnc, (fun e => by cases e), fun ad ha j u hu => ?_⟩
    cases ha
    exact World.ownsRow.cells h (g := g) rfl j u hu
theorem RdC.take {w : World} {A : Option Addr} {cap : Nat} {ts : Tags} (h : RdC w A cap ts) (k : Nat) : RdC w A cap (ts.take k) :=
  ⟨by rw [List.length_take]; have := h.le; omega, h.nn, fun ad ha j u hu => h.rd ad ha j u (by
    have e : tagCells ts = tagCells (ts.take k) ++ tagCells (ts.drop k) := by rw [← tagCells_app, List.take_append_drop]
    rw [e, List.getElem?_append_left (List.getElem?_eq_some_iff.1 hu).1]
    exact hu)⟩
theorem tag_row {w : World} {base : Nat} {B : Option Addr} {cap : Nat} {l : Tags} (h : OwnT w base B cap l) {A : Option Addr} {c : Nat} {y : Tags} (hr : RdC w A c y) (hl : l.length + y.length ≤ 1000) (hB : base ≤ w.heap.size) :
    ∃ D d w', (Builtin.append_ #[152, 152] 152 #[.slice B l.length cap, .slice A y.length c]).run Tryz.prog w = .ok (.slice D (l ++ y).length d) w' ∧ OwnT w' base D d (l ++ y) ∧ Below base w w' := by
  cases hi : Tryz.prog.info? 198 with
  | none => have := infoT; rw [hi] at this; cases this
  | some i =>
    have hI := infoT
    rw [hi] at hI
    simp only [Option.map_some, Option.some.injEq, Prod.mk.injEq] at hI
    obtain ⟨hz, hz1, hz2⟩ := hI
    cases A with
    | none =>
      obtain rfl := hr.nn rfl
      have h0 : y = [] := List.length_eq_zero_iff.1 (by have := hr.le; omega)
      subst h0
      have hrun := run_append_owned_none (P := Tryz.prog) (w := w) base 152 152 198 i 2 Tryz.underlying152 hi _ _ _ h
      exact ⟨B, cap, w, by simpa using hrun, by simpa using h, Below.refl _ _⟩
    | some ad =>
      obtain ⟨v', w', hrun, hown, hgr, hnil⟩ := run_append_own (P := Tryz.prog) w base 152 152 198 i _ 2 32 Tryz.underlying152 hi hz hz1 hz2 rfl (by omega) _ _ _ h ad y.length c (tagCells y) (by rw [tagCells_length])
        (fun j u hu => hr.rd ad rfl j u hu)
        (fun u hu => by
          obtain ⟨t, _, hu⟩ := List.mem_flatMap.1 hu
          simp only [List.mem_cons, List.not_mem_nil, or_false] at hu
          rcases hu with rfl | rfl <;> rfl)
        (by unfold maxLen; omega) (by omega) hB
      have hb : Below base w w' := ⟨hgr.os, hgr.tape, hgr.output, hgr.size, fun k hk => hgr.block k (by omega) (fun e => by
        have := (World.ownsRow.lt h k e.symm).1
        omega)⟩
      rcases hown.2 with ⟨rfl, hn0⟩ | ⟨g', cap', cur, rfl, r⟩
      · have e1 : l = [] := List.length_eq_zero_iff.1 (by omega)
        have e2 : y = [] := List.length_eq_zero_iff.1 (by omega)
        subst e1 e2
        exact ⟨none, 0, w', hrun, OwnT.nil _ _, hb⟩
      · rw [List.length_append]
        refine ⟨_, _, w', hrun, ?_, hb⟩
        unfold OwnT
        rw [tagCells_app, List.length_append]
        exact hown
theorem elemT : Tryz.prog.elem 152 = 198 := by kernel_rfl
theorem underT : Tryz.prog.underlying 152 = some (.slice (Tryz.prog.elem 152)) := by rw [elemT]; exact Tryz.underlying152
theorem size_tag (w : World) : (sizeOf (Tryz.prog.elem 152)).run Tryz.prog w = .ok 2 w := by
  cases hi : Tryz.prog.info? 198 with
  | none => have := infoT; rw [hi] at this; cases this
  | some i =>
    have hI := infoT
    rw [hi] at hI
    simp only [Option.map_some, Option.some.injEq, Prod.mk.injEq] at hI
    rw [elemT]
    simp [sizeOf, typeInfo, hi, hI.2.1, Result.andThen]
theorem tags_to (A : Option Addr) (len cap k : Nat) (hk : k ≤ cap) (w : World) :
    (Instr.slice 152 (.slice A len cap) none (some (.int .i64 (k : Int))) none).run Tryz.prog w = .ok (.slice A k cap) w := by
  rw [run_slice_h w 152 A len cap underT _ _ (by omega) (by omega), size_tag]
  cases A with
  | none => simp [Result.andThen, sliced]
  | some a => simp [Result.andThen, sliced, Addr.add]
theorem tags_from (A : Option Addr) (cap : Nat) (ts : Tags) (k : Nat) (hk : k ≤ ts.length) (hle : ts.length ≤ cap) :
    ∃ A', (∀ w, (Instr.slice 152 (.slice A ts.length cap) (some (.int .i64 (k : Int))) none none).run Tryz.prog w = .ok (.slice A' (ts.drop k).length (cap - k)) w) ∧
      ∀ w, RdC w A cap ts → RdC w A' (cap - k) (ts.drop k) := by
  refine ⟨if cap = k then A else A.map (·.add (k * 2)), fun w => ?_, fun w h => ?_⟩
  · rw [run_slice_l w 152 A ts.length cap underT _ _ (by omega) (by omega), size_tag]
    simp [Result.andThen, sliced]
  · refine ⟨by rw [List.length_drop]; have := h.le; omega, fun e => ?_, fun ad ha j u hu => ?_⟩
    · split at e
      · omega
      · cases A with
        | none => have := h.nn rfl; omega
        | some a => cases e
    · have hj := (List.getElem?_eq_some_iff.1 hu).1
      rw [tagCells_length, List.length_drop] at hj
      split at ha
      · omega
      · cases A with
        | none => cases ha
        | some a =>
          cases ha
          rw [Addr.add_add]
          refine h.rd a rfl (k * 2 + j) u ?_
          have e : tagCells ts = tagCells (ts.take k) ++ tagCells (ts.drop k) := by rw [← tagCells_app, List.take_append_drop]
          have hl : (tagCells (ts.take k)).length = k * 2 := by rw [tagCells_length, List.length_take]; congr 1; omega
          rw [e, List.getElem?_append_right (by omega), hl, show k * 2 + j - k * 2 = j by omega]
          exact hu
end Go.Proofs.YtgeahpfdaehjaaaGreatDoor
namespace Go.Proofs.YtgeahpfdaehjaaaGreatDoor
open Go.ChangeShapes Go.WideShapes Go.ChangeAt Go.RowKit Go.Sort
set_option linter.unusedVariables false

theorem cell_on {w1 w2 : World} {b o : Nat} {v : Value} (h : w1.cell? ⟨b, o, none⟩ = some v) (hb : Below w1.heap.size w1 w2) : w2.cell? ⟨b, o, none⟩ = some v := by
  rw [hb.cell (World.block_lt_of_cell? w1 _ h)]; exact h
def CanonRef (w : World) (n : ByteArray) (k v t : Int) (o : Option Tags) (e : Ending) (w' : World) : Prop :=
  match o with
  | none => e = .returned (.tuple #[evZero, .int .i64 5]) ∧ Below w.heap.size w w'
  | some l => ∃ D d, e = .returned (.tuple #[evVal n D l.length d k v t, .int .i64 0]) ∧ OwnT w' w.heap.size D d l ∧ Below w.heap.size w w'
theorem lss_tag (a b : ByteArray × ByteArray) : Op.bytesLess a.1.toList b.1.toList = ltK a b := by
  rw [bytesLess_eq, Lib.toList_data, Lib.toList_data]
  rfl
theorem eql_tag {a b : ByteArray × ByteArray} (h : keyOf a = keyOf b) : (a.1.toList == b.1.toList) = true := by
  rw [Lib.toList_data, Lib.toList_data]
  exact beq_iff_eq.2 h
theorem neq_tag {a b : ByteArray × ByteArray} (h : keyOf a ≠ keyOf b) : (a.1.toList == b.1.toList) = false := by
  rw [Lib.toList_data, Lib.toList_data]
  exact beq_eq_false_iff_ne.2 h
theorem ins_le (l : Tags) (t : ByteArray × ByteArray) : insAt l t ≤ l.length := by
  unfold insAt
  exact takeWhile_le _ l
theorem ins_lt {l : Tags} {t z : ByteArray × ByteArray} {a : Nat} (ha : a < insAt l t) (hz : l[a]? = some z) : ltK z t = true := by
  have h1 : (l.take (insAt l t))[a]? = some z := by rw [List.getElem?_take, if_pos ha]; exact hz
  rw [take_ins] at h1
  exact takeWhile_mem z (List.mem_of_getElem? h1)
theorem ins_at {l : Tags} {t z : ByteArray × ByteArray} (hz : l[insAt l t]? = some z) : ltK z t = false := by
  have h1 : (l.drop (insAt l t))[0]? = some z := by rw [List.getElem?_drop]; exact hz
  cases hd : l.drop (insAt l t) with
  | nil => rw [hd] at h1; cases h1
  | cons b r =>
    rw [hd] at h1
    cases h1
    exact dropWhile_head (l := l) (p := fun x => ltK x t) (b := z) (r := r) (by rw [← drop_ins]; exact hd)
theorem insT_new {l : Tags} {t : ByteArray × ByteArray} (h : ∀ z, l[insAt l t]? = some z → keyOf z ≠ keyOf t) : insT l t = some (l.take (insAt l t) ++ [t] ++ l.drop (insAt l t)) := by
  unfold insT
  cases hz : l[insAt l t]? with
  | none => simp
  | some z => simp only; rw [if_neg (h z hz)]; simp
theorem insT_old {l : Tags} {t z : ByteArray × ByteArray} (hz : l[insAt l t]? = some z) (h : keyOf z = keyOf t) : insT l t = none := by
  unfold insT
  rw [hz]
  simp only
  rw [if_pos h]
/-- Where Canon stands, with the tags that are laid. -/
structure Ct (w : World) (n : ByteArray) (A : Option Addr) (c : Nat) (k v t : Int) (ts : Tags) (i : Nat) (acc : Tags) (D : Option Addr) (d : Nat) (wr : World) : Prop where
  cn : Cn w n A ts.length c k v t wr
  own : OwnT wr (w.heap.size + 2) D d acc
  eq : canonT [] ts = canonT acc (ts.drop i)
theorem Ct.drew {w : World} {n : ByteArray} {A : Option Addr} {c : Nat} {k v t : Int} {ts : Tags} {i : Nat} {acc : Tags} {D : Option Addr} {d : Nat} {wr : World} (h : Ct w n A c k v t ts i acc D d wr) (q : Nat) : Ct w n A c k v t ts i acc D d (wr.drewN q) :=
  ⟨h.cn.on (below_drewS wr q), h.own.below (below_drewS wr q), h.eq⟩
set_option maxHeartbeats 4000000 in
set_option maxRecDepth 100000 in
theorem refCanon (n : ByteArray) (A : Option Addr) (c : Nat) (k v t : Int) (ts : Tags) (w : World) (hr : RdT w A ts) (hm : mayB n ts k t = true) (hS : Small n ts) (hl : ts.length ≤ 6) :
    Calls Tryz.prog 126 #[evVal n A ts.length c k v t] w (CanonRef w n k v t (canonT [] ts)) := by
  have HR := Lib.hid hr
  have C0 := Lib.hid (Cn.start w n A ts.length c k v t)
  have CM := Lib.hid (fun w' (h : RdT w' A ts) => refMay n A c k v t ts w' h hS)
  rw [hm] at CM
  clear hr hm hS
  unfold evVal at CM ⊢
  go_enter Tryz.func126, Tryz.ntmps126
  go_wp2_with fail
  refine (CM.out _ (HR.out.below C0.out.below)).mono ?_
  rintro e w1 ⟨rfl, b1⟩
  have C1 := Lib.hid (C0.out.on (b1.mono (by simp)))
  clear b1 CM C0
  go_wp2_with fail
  go_loopg [5, 6] (ts.length) (fun g s5 s6 wx => ∃ (i : Nat) (acc : Tags) (D : Option Addr) (d : Nat), i + g = ts.length ∧ acc.length = i ∧ s5 = .slice D acc.length d ∧ s6 = .int .i64 i ∧ Hid (Ct w n A c k v t ts i acc D d wx))
  case atStart => exact ⟨0, [], none, 0, by omega, rfl, rfl, rfl, Lib.hid ⟨C1.out, OwnT.nil _ _, rfl⟩⟩
  case round =>
    clear C1
    obtain ⟨i, acc, D, d, hig, hac, rfl, rfl, HG⟩ := hrel
    subst hac
    have c1 := HG.out.cn.ev.c1
    cases gk with
    | zero =>
      have x1 : decide ((acc.length : Int) < (ts.length : Int)) = false := decide_eq_false (by omega)
      have x2 : decide (acc.length < ts.length) = false := decide_eq_false (by omega)
      have HK : Hid (canonT [] ts = some acc) := Lib.hid (by rw [HG.out.eq, List.drop_eq_nil_of_le (by omega)]; rfl)
      have c0 := HG.out.cn.ev.c0
      have c2 := HG.out.cn.ev.c2
      have c3 := HG.out.cn.ev.c3
      have c4 := HG.out.cn.ev.c4
      have f1 := HG.out.cn.ev.f 1
      have r0 := HG.out.cn.res.c0
      have r1 := HG.out.cn.res.c1
      have r2 := HG.out.cn.res.c2
      have r3 := HG.out.cn.res.c3
      have r4 := HG.out.cn.res.c4
      have q0 := HG.out.cn.res.f 0
      have q1 := HG.out.cn.res.f 1
      have q2 := HG.out.cn.res.f 2
      have q3 := HG.out.cn.res.f 3
      have q4 := HG.out.cn.res.f 4
      go_wp2_with fail
      refine bodyPost_ret (v := .tuple #[evVal n D acc.length d k v t, .int .i64 0]) (by simp [results, Tryz.results126, go_sem, evVal, r0, r1, r2, r3, r4]) rfl ?_
      rw [HK.out]
      exact ⟨D, d, rfl, (OwnT.set5 (OwnT.set HG.out.own _ _ (by show w.heap.size < w.heap.size + 2; omega)) (by omega) _ _ _ _ _).mono (by omega), below_of_grown (grown_set5 (grown_set (grown_of HG.out.cn.below) _ _ (Or.inr (Nat.le_refl _))) (Nat.le_succ _) _ _ _ _ _)⟩
    | succ g =>
      have hlt : acc.length < ts.length := by omega
      have hltz : (acc.length : Int) < (ts.length : Int) := by omega
      obtain ⟨x, y, hxy⟩ : ∃ x y, ts[acc.length]? = some (x, y) := ⟨_, _, List.getElem?_eq_getElem hlt⟩
      have hR := HR.out.below HG.out.cn.below
      rcases hR with h | ⟨b, o, rfl, hc⟩
      · rw [h] at hlt; simp at hlt
      obtain ⟨p0, p1⟩ := hc acc.length x y hxy
      have HDR : Hid (ts.drop acc.length = (x, y) :: ts.drop (acc.length + 1)) := Lib.hid (by
        obtain ⟨h1, h2⟩ := List.getElem?_eq_some_iff.1 hxy
        rw [List.drop_eq_getElem_cons h1, h2])
      obtain ⟨u1, rfl⟩ : ∃ u1, u1 = wr := ⟨_, rfl⟩
      clear hc hxy
      have hin := ins_le acc (x, y)
      obtain ⟨m, hm⟩ : ∃ m, m = insAt acc (x, y) := ⟨_, rfl⟩
      have HM := Lib.hid hm
      rw [← hm] at hin
      clear hm
      go_wp2
      go_loopg [7] m (fun g2 s7 wx => ∃ (a q : Nat), a + g2 = m ∧ s7 = .int .i64 a ∧ Hid (wx = u1.drewN q))
      case atStart => exact ⟨0, 0, by omega, rfl, Lib.hid rfl⟩
      case round =>
        obtain ⟨a, q, hag, rfl, HW⟩ := hrel
        have hw := HW.out
        subst hw
        clear HW
        cases gk with
        | zero =>
          obtain rfl : a = m := by omega
          have hcase : acc.length ≤ a ∨ ∃ z, acc[a]? = some z ∧ a < acc.length := by
            rcases Nat.lt_or_ge a acc.length with h | h
            · exact .inr ⟨_, List.getElem?_eq_getElem h, h⟩
            · exact .inl h
          rcases hcase with hge | ⟨z, hz, hzl⟩
          · have x1 : decide ((a : Int) < (acc.length : Int)) = false := decide_eq_false (by omega)
            have x2 : decide (a < acc.length) = false := decide_eq_false (by omega)
            have HNEW : Hid (∀ z, acc[insAt acc (x, y)]? = some z → keyOf z ≠ keyOf (x, y)) := Lib.hid (fun z hz => by rw [← HM.out, List.getElem?_eq_none hge] at hz; cases hz)
            have GU := Lib.hid (HG.out.drew q)
            have p0U : (u1.drewN q).cell? ⟨b, o + acc.length * 2, none⟩ = some (.string x) := p0
            have p1U : (u1.drewN q).cell? ⟨b, o + acc.length * 2 + 1, none⟩ = some (.string y) := p1
            have c1U : (u1.drewN q).cell? ⟨w.heap.size, 1, none⟩ = some (.slice (some ⟨b, o, none⟩) ts.length c) := c1
            clear p0 p1 c1 HG
            generalize u1.drewN q = U at GU p0U p1U c1U ⊢
            go_wp2
            go_quiet (fail)
            all_goals go_wp2
            have GV := Lib.hid (GU.out.drew nq)
            have p0V : (U.drewN nq).cell? ⟨b, o + acc.length * 2, none⟩ = some (.string x) := p0U
            have p1V : (U.drewN nq).cell? ⟨b, o + acc.length * 2 + 1, none⟩ = some (.string y) := p1U
            have c1V : (U.drewN nq).cell? ⟨w.heap.size, 1, none⟩ = some (.slice (some ⟨b, o, none⟩) ts.length c) := c1U
            clear p0U p1U c1U GU
            generalize U.drewN nq = V at GV p0V p1V c1V ⊢
            go_quiet (fail)
            have GX := Lib.hid (GV.out.drew nq)
            have p0X : (V.drewN nq).cell? ⟨b, o + acc.length * 2, none⟩ = some (.string x) := p0V
            have p1X : (V.drewN nq).cell? ⟨b, o + acc.length * 2 + 1, none⟩ = some (.string y) := p1V
            have c1X : (V.drewN nq).cell? ⟨w.heap.size, 1, none⟩ = some (.slice (some ⟨b, o, none⟩) ts.length c) := c1V
            clear p0V p1V c1V GV
            generalize V.drewN nq = X at GX p0X p1X c1X ⊢
            have hown := GX.out.own
            have rc := hown.rc
            have hv : OwnT (X.alloc (.cells #[] 198)) X.heap.size (some ⟨X.heap.size, 0, none⟩) 0 [] :=
              ⟨rfl, .inr ⟨X.heap.size, 0, #[], rfl, Nat.le_refl _, heap_alloc_new X _, Nat.le_refl _, by unfold maxLen; omega, rfl, rfl⟩⟩
            have hszX : w.heap.size + 2 ≤ X.heap.size := GX.out.cn.size
            have hdle := rc.le
            obtain ⟨L1, hL1⟩ : ∃ L1, L1 = acc.take a := ⟨_, rfl⟩
            have lL1 : L1.length = a := by rw [hL1, List.length_take]; omega
            obtain ⟨L2, hL2⟩ : ∃ L2, L2 = L1 ++ [(x, y)] := ⟨_, rfl⟩
            have lL2 : L2.length = a + 1 := by rw [hL2, List.length_append, lL1]; rfl
            obtain ⟨L3, hL3⟩ : ∃ L3, L3 = acc.drop a := ⟨_, rfl⟩
            obtain ⟨L4, hL4⟩ : ∃ L4, L4 = L2 ++ L3 := ⟨_, rfl⟩
            have lL4 : L4.length = acc.length + 1 := by rw [hL4, List.length_append, lL2, hL3, List.length_drop]; omega
            have sl1 := fun w' => tags_to D acc.length d a (by omega) w'
            obtain ⟨A3, sl3, rd3⟩ := tags_from D d acc a (by omega) hdle
            rw [← hL3] at sl3 rd3
            have rcT := (rc.below (below_new X (.cells #[] 198)) (Nat.le_refl _)).take a
            rw [← hL1] at rcT
            obtain ⟨D1, d1, w2, r1, o1, b1⟩ := tag_row hv rcT (by rw [lL1]; simp; omega) (by simp)
            simp only [List.nil_append, List.length_nil] at r1 o1
            rw [lL1] at r1
            have b1' : Below X.heap.size X w2 := (below_new X _).trans b1
            obtain ⟨D2, d2, w3, r2, o2', b2'⟩ := append_tag x y o1 b1'.size (by omega)
            rw [lL1] at r2
            rw [← hL2] at o2'
            have b2'' : Below X.heap.size X w3 := b1'.trans b2'
            obtain ⟨D3, d3, w4, r3, o3, b3⟩ := tag_row o2' (rd3 w3 (rc.below b2'' (Nat.le_refl _))) (by rw [lL2, hL3, List.length_drop]; omega) b2''.size
            rw [← hL4, lL2] at r3
            rw [← hL4] at o3
            have p0w : w2.cell? ⟨b, o + acc.length * 2, none⟩ = some (.string x) := cell_on p0X b1'
            have p1w : w2.cell? ⟨b, o + acc.length * 2 + 1, none⟩ = some (.string y) := cell_on p1X b1'
            have c1w : w2.cell? ⟨w.heap.size, 1, none⟩ = some (.slice (some ⟨b, o, none⟩) ts.length c) := cell_on c1X b1'
            have R1 := Lib.hid r1
            have R2 := Lib.hid r2
            have R3 := Lib.hid r3
            have HE : Hid (Ct w n (some ⟨b, o, none⟩) c k v t ts L4.length L4 D3 d3 w4) := Lib.hid ⟨GX.out.cn.on (b2''.trans b3), o3.mono hszX, by
              rw [GX.out.eq, HDR.out, canonT, insT_new HNEW.out, ← HM.out, ← hL1, ← hL2, ← hL3, ← hL4, lL4]⟩
            clear hown rc hv rd3 rcT r1 o1 b1 b1' r2 o2' b2' b2'' r3 o3 b3 hL1 hL2 hL3 hL4 GX p0X p1X c1X
            go_wp2_with (first
              | (at_builtin; refine wpList_append_if rfl (.tmp 60) (.tmp 63) 152 rfl _ _ _ rfl rfl R1.out ?_)
              | (at_builtin; refine wpList_append_if rfl (.tmp 65) (.tmp 71) 152 rfl _ _ _ rfl rfl R2.out ?_)
              | (at_builtin; refine wpList_append_if rfl (.tmp 73) (.tmp 76) 152 rfl _ _ _ rfl rfl R3.out ?_)
              | fail)
            go_roundg g
            case rel => exact ⟨L4.length, L4, D3, d3, by omega, rfl, by rw [lL4], by rw [lL4]; go_num, HE⟩
            case measure => omega
          · have hzlz : (a : Int) < (acc.length : Int) := by omega
            have x1 : decide ((a : Int) < (acc.length : Int)) = true := decide_eq_true (by omega)
            have x2 : decide (a < acc.length) = true := decide_eq_true hzl
            have hlt0 := lss_tag z (x, y)
            rw [ins_at (by rw [← HM.out]; exact hz)] at hlt0
            rcases HG.out.own.rd with h | ⟨b2, o2, rfl, hc2⟩
            · rw [h] at hzl; simp at hzl
            obtain ⟨z0, _⟩ := hc2 a z.1 z.2 hz
            by_cases hk : keyOf z = keyOf (x, y)
            · have he := eql_tag hk
              have HK : Hid (canonT [] ts = none) := Lib.hid (by rw [HG.out.eq, HDR.out, canonT, insT_old (by rw [← HM.out]; exact hz) hk])
              clear hc2 hz hk
              have GU := Lib.hid (HG.out.drew q)
              have p0U : (u1.drewN q).cell? ⟨b, o + acc.length * 2, none⟩ = some (.string x) := p0
              have p1U : (u1.drewN q).cell? ⟨b, o + acc.length * 2 + 1, none⟩ = some (.string y) := p1
              have c1U : (u1.drewN q).cell? ⟨w.heap.size, 1, none⟩ = some (.slice (some ⟨b, o, none⟩) ts.length c) := c1
              have z0U : (u1.drewN q).cell? ⟨b2, o2 + a * 2, none⟩ = some (.string z.1) := z0
              clear p0 p1 c1 z0 HG
              generalize u1.drewN q = U at GU p0U p1U c1U z0U ⊢
              go_wp2
              go_quiet (fail)
              all_goals go_wp2
              have GV := Lib.hid (GU.out.drew nq)
              have p0V : (U.drewN nq).cell? ⟨b, o + acc.length * 2, none⟩ = some (.string x) := p0U
              have p1V : (U.drewN nq).cell? ⟨b, o + acc.length * 2 + 1, none⟩ = some (.string y) := p1U
              have c1V : (U.drewN nq).cell? ⟨w.heap.size, 1, none⟩ = some (.slice (some ⟨b, o, none⟩) ts.length c) := c1U
              have z0V : (U.drewN nq).cell? ⟨b2, o2 + a * 2, none⟩ = some (.string z.1) := z0U
              clear p0U p1U c1U z0U GU
              generalize U.drewN nq = V at GV p0V p1V c1V z0V ⊢
              go_quiet (fail)
              have GX := Lib.hid (GV.out.drew nq)
              have p0X : (V.drewN nq).cell? ⟨b, o + acc.length * 2, none⟩ = some (.string x) := p0V
              have p1X : (V.drewN nq).cell? ⟨b, o + acc.length * 2 + 1, none⟩ = some (.string y) := p1V
              have c1X : (V.drewN nq).cell? ⟨w.heap.size, 1, none⟩ = some (.slice (some ⟨b, o, none⟩) ts.length c) := c1V
              have z0X : (V.drewN nq).cell? ⟨b2, o2 + a * 2, none⟩ = some (.string z.1) := z0V
              clear p0V p1V c1V z0V GV
              generalize V.drewN nq = X at GX p0X p1X c1X z0X ⊢
              have r0 := GX.out.cn.res.c0
              have r1 := GX.out.cn.res.c1
              have r2 := GX.out.cn.res.c2
              have r3 := GX.out.cn.res.c3
              have r4 := GX.out.cn.res.c4
              have q0 := GX.out.cn.res.f 0
              have q1 := GX.out.cn.res.f 1
              have q2 := GX.out.cn.res.f 2
              have q3 := GX.out.cn.res.f 3
              have q4 := GX.out.cn.res.f 4
              go_wp2_with fail
              refine bodyPost_ret (v := .tuple #[evZero, .int .i64 5]) (by simp [results, Tryz.results126, go_sem, evVal, evZero, r0, r1, r2, r3, r4]) rfl ?_
              rw [HK.out]
              exact ⟨rfl, below_of_grown (grown_set5 (grown_of GX.out.cn.below) (Nat.le_succ _) _ _ _ _ _)⟩
            · have he := neq_tag hk
              have HNEW : Hid (∀ z', acc[insAt acc (x, y)]? = some z' → keyOf z' ≠ keyOf (x, y)) := Lib.hid (fun z' hz' => by rw [← HM.out, hz] at hz'; cases hz'; exact hk)
              clear hc2 hz hk
              have GU := Lib.hid (HG.out.drew q)
              have p0U : (u1.drewN q).cell? ⟨b, o + acc.length * 2, none⟩ = some (.string x) := p0
              have p1U : (u1.drewN q).cell? ⟨b, o + acc.length * 2 + 1, none⟩ = some (.string y) := p1
              have c1U : (u1.drewN q).cell? ⟨w.heap.size, 1, none⟩ = some (.slice (some ⟨b, o, none⟩) ts.length c) := c1
              have z0U : (u1.drewN q).cell? ⟨b2, o2 + a * 2, none⟩ = some (.string z.1) := z0
              clear p0 p1 c1 z0 HG
              generalize u1.drewN q = U at GU p0U p1U c1U z0U ⊢
              go_wp2
              go_quiet (fail)
              all_goals go_wp2
              have GV := Lib.hid (GU.out.drew nq)
              have p0V : (U.drewN nq).cell? ⟨b, o + acc.length * 2, none⟩ = some (.string x) := p0U
              have p1V : (U.drewN nq).cell? ⟨b, o + acc.length * 2 + 1, none⟩ = some (.string y) := p1U
              have c1V : (U.drewN nq).cell? ⟨w.heap.size, 1, none⟩ = some (.slice (some ⟨b, o, none⟩) ts.length c) := c1U
              have z0V : (U.drewN nq).cell? ⟨b2, o2 + a * 2, none⟩ = some (.string z.1) := z0U
              clear p0U p1U c1U z0U GU
              generalize U.drewN nq = V at GV p0V p1V c1V z0V ⊢
              go_quiet (fail)
              have GX := Lib.hid (GV.out.drew nq)
              have p0X : (V.drewN nq).cell? ⟨b, o + acc.length * 2, none⟩ = some (.string x) := p0V
              have p1X : (V.drewN nq).cell? ⟨b, o + acc.length * 2 + 1, none⟩ = some (.string y) := p1V
              have c1X : (V.drewN nq).cell? ⟨w.heap.size, 1, none⟩ = some (.slice (some ⟨b, o, none⟩) ts.length c) := c1V
              have z0X : (V.drewN nq).cell? ⟨b2, o2 + a * 2, none⟩ = some (.string z.1) := z0V
              clear p0V p1V c1V z0V GV
              generalize V.drewN nq = X at GX p0X p1X c1X z0X ⊢
              have hown := GX.out.own
              have rc := hown.rc
              have hv : OwnT (X.alloc (.cells #[] 198)) X.heap.size (some ⟨X.heap.size, 0, none⟩) 0 [] :=
                ⟨rfl, .inr ⟨X.heap.size, 0, #[], rfl, Nat.le_refl _, heap_alloc_new X _, Nat.le_refl _, by unfold maxLen; omega, rfl, rfl⟩⟩
              have hszX : w.heap.size + 2 ≤ X.heap.size := GX.out.cn.size
              have hdle := rc.le
              obtain ⟨L1, hL1⟩ : ∃ L1, L1 = acc.take a := ⟨_, rfl⟩
              have lL1 : L1.length = a := by rw [hL1, List.length_take]; omega
              obtain ⟨L2, hL2⟩ : ∃ L2, L2 = L1 ++ [(x, y)] := ⟨_, rfl⟩
              have lL2 : L2.length = a + 1 := by rw [hL2, List.length_append, lL1]; rfl
              obtain ⟨L3, hL3⟩ : ∃ L3, L3 = acc.drop a := ⟨_, rfl⟩
              obtain ⟨L4, hL4⟩ : ∃ L4, L4 = L2 ++ L3 := ⟨_, rfl⟩
              have lL4 : L4.length = acc.length + 1 := by rw [hL4, List.length_append, lL2, hL3, List.length_drop]; omega
              have sl1 := fun w' => tags_to (some ⟨b2, o2, none⟩) acc.length d a (by omega) w'
              obtain ⟨A3, sl3, rd3⟩ := tags_from (some ⟨b2, o2, none⟩) d acc a (by omega) hdle
              rw [← hL3] at sl3 rd3
              have rcT := (rc.below (below_new X (.cells #[] 198)) (Nat.le_refl _)).take a
              rw [← hL1] at rcT
              obtain ⟨D1, d1, w2, r1, o1, b1⟩ := tag_row hv rcT (by rw [lL1]; simp; omega) (by simp)
              simp only [List.nil_append, List.length_nil] at r1 o1
              rw [lL1] at r1
              have b1' : Below X.heap.size X w2 := (below_new X _).trans b1
              obtain ⟨D2, d2, w3, r2, o2', b2'⟩ := append_tag x y o1 b1'.size (by omega)
              rw [lL1] at r2
              rw [← hL2] at o2'
              have b2'' : Below X.heap.size X w3 := b1'.trans b2'
              obtain ⟨D3, d3, w4, r3, o3, b3⟩ := tag_row o2' (rd3 w3 (rc.below b2'' (Nat.le_refl _))) (by rw [lL2, hL3, List.length_drop]; omega) b2''.size
              rw [← hL4, lL2] at r3
              rw [← hL4] at o3
              have p0w : w2.cell? ⟨b, o + acc.length * 2, none⟩ = some (.string x) := cell_on p0X b1'
              have p1w : w2.cell? ⟨b, o + acc.length * 2 + 1, none⟩ = some (.string y) := cell_on p1X b1'
              have c1w : w2.cell? ⟨w.heap.size, 1, none⟩ = some (.slice (some ⟨b, o, none⟩) ts.length c) := cell_on c1X b1'
              have R1 := Lib.hid r1
              have R2 := Lib.hid r2
              have R3 := Lib.hid r3
              have HE : Hid (Ct w n (some ⟨b, o, none⟩) c k v t ts L4.length L4 D3 d3 w4) := Lib.hid ⟨GX.out.cn.on (b2''.trans b3), o3.mono hszX, by
                rw [GX.out.eq, HDR.out, canonT, insT_new HNEW.out, ← HM.out, ← hL1, ← hL2, ← hL3, ← hL4, lL4]⟩
              clear hown rc hv rd3 rcT r1 o1 b1 b1' r2 o2' b2' b2'' r3 o3 b3 hL1 hL2 hL3 hL4 GX p0X p1X c1X
              go_wp2_with (first
                | (at_builtin; refine wpList_append_if rfl (.tmp 60) (.tmp 63) 152 rfl _ _ _ rfl rfl R1.out ?_)
                | (at_builtin; refine wpList_append_if rfl (.tmp 65) (.tmp 71) 152 rfl _ _ _ rfl rfl R2.out ?_)
                | (at_builtin; refine wpList_append_if rfl (.tmp 73) (.tmp 76) 152 rfl _ _ _ rfl rfl R3.out ?_)
                | fail)
              go_roundg g
              case rel => exact ⟨L4.length, L4, D3, d3, by omega, rfl, by rw [lL4], by rw [lL4]; go_num, HE⟩
              case measure => omega
        | succ g2 =>
          have hla : a < acc.length := by omega
          have hlaz : (a : Int) < (acc.length : Int) := by omega
          have x1 : decide (a < acc.length) = true := decide_eq_true hla
          obtain ⟨z, hz⟩ : ∃ z, acc[a]? = some z := ⟨_, List.getElem?_eq_getElem hla⟩
          have hlt1 := lss_tag z (x, y)
          rw [ins_lt (by rw [← HM.out]; omega) hz] at hlt1
          rcases HG.out.own.rd with h | ⟨b2, o2, rfl, hc2⟩
          · rw [h] at hla; simp at hla
          obtain ⟨q0, _⟩ := hc2 a z.1 z.2 hz
          clear hc2 hz
          go_wp2
          go_quiet (fail)
          all_goals go_wp2
          go_roundg g2
          case rel => exact ⟨a + 1, _, by omega, by go_num, Lib.hid rfl⟩
          case measure => omega
end Go.Proofs.YtgeahpfdaehjaaaGreatDoor
namespace Go.Proofs.YtgeahpfdaehjaaaGreatDoor
open Go.ChangeShapes Go.WideShapes Go.ChangeAt Go.RowKit
set_option linter.unusedVariables false

def KeyRef (w : World) (n : ByteArray) (o : Option Tags) (e : Ending) (w' : World) : Prop :=
  match o with
  | none => e = .returned (.tuple #[.string ⟨#[]⟩, .int .i64 5]) ∧ Below w.heap.size w w'
  | some l => e = .returned (.tuple #[.string ⟨(headL n l).toArray⟩, .int .i64 0]) ∧ Below w.heap.size w w'
set_option maxHeartbeats 1000000 in
set_option maxRecDepth 100000 in
theorem refKeyOf (n : ByteArray) (A : Option Addr) (c : Nat) (k v t : Int) (ts : Tags) (w : World) (hr : RdT w A ts) (hm : mayB n ts k t = true) (hl : ts.length ≤ 6) :
    Calls Tryz.prog 111 #[evVal n A ts.length c k v t] w (KeyRef w n (canonT [] ts)) := by
  have C := refCanon n A c k v t ts (w.alloc (.cells #[.string n, .slice A ts.length c, .int .i64 k, .int .i64 v, .int .i64 t] 154)) (hr.alloc _) hm (small_of_may hm) hl
  have B0 := Lib.hid (below_new w (.cells #[.string n, .slice A ts.length c, .int .i64 k, .int .i64 v, .int .i64 t] 154))
  have HM := Lib.hid hm
  clear hm
  cases hc : canonT [] ts with
  | none =>
    rw [hc] at C
    have C := Lib.hid C
    clear hc hr
    unfold evVal at C ⊢
    go_enter Tryz.func111, Tryz.ntmps111
    go_wp2_with fail
    refine C.out.mono ?_
    rintro e w1 ⟨rfl, b1⟩
    have B1 := Lib.hid (B0.out.trans (b1.mono (by simp)))
    unfold evZero evVal
    clear b1 C
    go_wp2_with fail
    go_ret2
    exact ⟨rfl, B1.out.alloc B1.out.size _⟩
  | some l =>
    obtain ⟨_, hp⟩ := canonT_rise ts [] l hc rfl
    rw [List.nil_append] at hp
    have HS := Lib.hid (small_of_may (show mayB n l k t = true by rw [may_perm hp]; exact HM.out))
    rw [hc] at C
    have C := Lib.hid C
    clear hc hr hp
    unfold evVal at C ⊢
    go_enter Tryz.func111, Tryz.ntmps111
    go_wp2_with fail
    refine C.out.mono ?_
    rintro e w1 ⟨D, d, rfl, o1, b1⟩
    have B1 := Lib.hid ((B0.out.trans (b1.mono (by simp))).alloc (Nat.le_trans (by simp) b1.size) (.cells #[.string n, .slice D l.length d, .int .i64 k, .int .i64 v, .int .i64 t] 154))
    have CH := refHead n D d k v t l (w1.alloc (.cells #[.string n, .slice D l.length d, .int .i64 k, .int .i64 v, .int .i64 t] 154)) (o1.rd.alloc _) HS.out
    unfold SB at CH
    obtain ⟨H, hH⟩ : ∃ H : ByteArray, H = ⟨(headL n l).toArray⟩ := ⟨_, rfl⟩
    rw [← hH] at CH
    have HH := Lib.hid hH
    unfold evVal at CH ⊢
    have CH := Lib.hid CH
    clear hH
    clear b1 o1 C
    go_wp2_with fail
    refine CH.out.mono ?_
    rintro e w2 ⟨rfl, b2⟩
    have B2 := Lib.hid (B1.out.trans (b2.mono B1.out.size))
    clear b2 CH
    go_wp2_with fail
    go_ret2
    exact ⟨by rw [HH.out]; rfl, B2.out⟩
def OfRef (w : World) (ok : Bool) (e : Ending) (w' : World) : Prop := ∃ n A l c, e = .returned (.tuple #[evVal n A l c 0 0 0, .bool ok]) ∧ Below w.heap.size w w'
set_option maxHeartbeats 1000000 in
set_option maxRecDepth 100000 in
theorem refOf (s : ByteArray) (w : World) (hs : s.size ≤ 9223372036854775807) : Calls Tryz.prog 86 #[.string s] w (OfRef w (keyOk s)) := by
  have Z0 := Lib.hid (show EvB (w.alloc (.cells #[.string ⟨#[]⟩, .slice none 0 0, .int .i64 0, .int .i64 0, .int .i64 0] 154)) w.heap.size ⟨#[]⟩ none 0 0 0 0 0 from heap_alloc_new w _)
  have B0 := Lib.hid (below_new w (.cells #[.string ⟨#[]⟩, .slice none 0 0, .int .i64 0, .int .i64 0, .int .i64 0] 154))
  by_cases h294 : s.size ≤ 294
  case neg =>
    have HK : Hid (keyOk s = false) := Lib.hid (by unfold keyOk; rw [decide_eq_false h294, Bool.false_and])
    have e1 : decide ((294 : Int) < s.size) = true := decide_eq_true (by omega)
    rw [HK.out]
    clear h294
    go_enter Tryz.func86, Tryz.ntmps86
    go_wp2_with fail
    refine bodyPost_ret (v := .tuple #[evZero, .bool false]) (by simp [results, Tryz.results86, go_sem, evVal, evZero]) rfl ?_
    exact ⟨⟨#[]⟩, none, 0, 0, rfl, B0.out⟩
  have e1 : decide ((294 : Int) < s.size) = false := decide_eq_false (by omega)
  have hsz : (s ++ restB).size ≤ 300 := by rw [ByteArray.size_append]; show s.size + 6 ≤ 300; omega
  have C := refParse (s ++ restB) (w.alloc (.cells #[.string ⟨#[]⟩, .slice none 0 0, .int .i64 0, .int .i64 0, .int .i64 0] 154)) hsz
  cases hp : parseF (s ++ restB) with
  | bad p =>
    have HK : Hid (keyOk s = false) := Lib.hid (by unfold keyOk; rw [decide_eq_true h294, Bool.true_and, hp])
    rw [hp] at C
    have C := Lib.hid C
    rw [HK.out]
    clear hp
    unfold restB at C hsz
    go_enter Tryz.func86, Tryz.ntmps86
    go_wp2_with fail
    refine C.out.mono ?_
    rintro e w1 ⟨rfl, b1⟩
    have Z1 : EvB w1 w.heap.size ⟨#[]⟩ none 0 0 0 0 0 := by unfold EvB; rw [b1.block _ (by simp)]; exact Z0.out
    have B1 := Lib.hid (B0.out.trans (b1.mono (by simp)))
    have hz1 := lt_of_block Z1
    have c0 := Z1.c0
    have c1 := Z1.c1
    have c2 := Z1.c2
    have c3 := Z1.c3
    have c4 := Z1.c4
    have f0 := Z1.f 0
    have f1 := Z1.f 1
    have f2 := Z1.f 2
    have f3 := Z1.f 3
    have f4 := Z1.f 4
    unfold evZero evVal
    clear b1 Z1 C
    go_wp2_with fail
    refine bodyPost_ret (v := .tuple #[evZero, .bool false]) (by simp [results, Tryz.results86, go_sem, evVal, evZero, c0, c1, c2, c3, c4, hz1]) rfl ?_
    exact ⟨⟨#[]⟩, none, 0, 0, rfl, below_of_grown (grown_alloc (grown_set5 (grown_of B1.out) (Nat.le_refl _) _ _ _ _ _) _)⟩
  | good ev =>
    have hkey := refKey_eq hp
    obtain ⟨_, hm1⟩ := key_head hp
    have hmay := (print_parse hp).1
    have hl6 := parse_len hp
    have HK : Hid (keyOk s = refKey s ev) := Lib.hid (by rw [hkey]; unfold keyOk; rw [decide_eq_true h294, Bool.true_and, hp])
    rw [hp] at C
    have C := Lib.hid C
    rw [HK.out]
    have HMAY := Lib.hid hmay
    clear hp hkey hm1 hmay
    unfold restB at C hsz
    obtain ⟨n, ts, k, v, t⟩ := ev
    simp only at *
    go_enter Tryz.func86, Tryz.ntmps86
    go_wp2_with fail
    refine C.out.mono ?_
    rintro e w1 ⟨A, c, rfl, o1, b1⟩
    simp only at o1 ⊢
    unfold evVal
    have Z1 : EvB w1 w.heap.size ⟨#[]⟩ none 0 0 0 0 0 := by unfold EvB; rw [b1.block _ (by simp)]; exact Z0.out
    have B1 := Lib.hid (B0.out.trans (b1.mono (by simp)))
    have HZ1 := Lib.hid Z1
    have E2 : EvB (w1.alloc (.cells #[.string n, .slice A ts.length c, .int .i64 k, .int .i64 v, .int .i64 t] 154)) w1.heap.size n A ts.length c k v t := heap_alloc_new w1 _
    have HE2 := Lib.hid E2
    have hz1 := lt_of_block Z1
    have Z2 : EvB (w1.alloc (.cells #[.string n, .slice A ts.length c, .int .i64 k, .int .i64 v, .int .i64 t] 154)) w.heap.size ⟨#[]⟩ none 0 0 0 0 0 := by unfold EvB; rw [(World.grownBy_alloc _ _ none).block _ hz1 (by simp)]; exact Z1
    have HZ2 := Lib.hid Z2
    have B2 := Lib.hid (B1.out.alloc (by omega) (.cells #[.string n, .slice A ts.length c, .int .i64 k, .int .i64 v, .int .i64 t] 154))
    have CK := refKeyOf n A c k v t ts (w1.alloc (.cells #[.string n, .slice A ts.length c, .int .i64 k, .int .i64 v, .int .i64 t] 154)) (o1.rd.alloc _) HMAY.out hl6
    unfold evVal at CK
    clear b1 o1 C Z1 E2 Z2 hz1
    cases hc : canonT [] ts with
    | none =>
      have HR : Hid (refKey s ⟨n, ts, k, v, t⟩ = false) := Lib.hid (by unfold refKey; rw [hc])
      rw [hc] at CK
      have CK := Lib.hid CK
      clear hc
      go_wp2_with fail
      refine CK.out.mono ?_
      rintro e w3 ⟨rfl, b3⟩
      have Z3 : EvB w3 w.heap.size ⟨#[]⟩ none 0 0 0 0 0 := by unfold EvB; rw [b3.block _ (lt_of_block HZ2.out)]; exact HZ2.out
      have E3 : EvB w3 w1.heap.size n A ts.length c k v t := by unfold EvB; rw [b3.block _ (lt_of_block HE2.out)]; exact HE2.out
      have B3 := Lib.hid (B2.out.trans (b3.mono B2.out.size))
      have c0 := Z3.c0
      have c1 := Z3.c1
      have c2 := Z3.c2
      have c3 := Z3.c3
      have c4 := Z3.c4
      have f0 := Z3.f 0
      have f1 := Z3.f 1
      have f2 := Z3.f 2
      have f3 := Z3.f 3
      have f4 := Z3.f 4
      have d0 := E3.c0
      have d1 := E3.c1
      clear b3 Z3 E3 CK
      go_wp2_with fail
      refine bodyPost_ret (v := .tuple #[evVal n A ts.length c 0 0 0, .bool false]) (by simp [results, Tryz.results86, go_sem, evVal, c0, c1, c2, c3, c4]) rfl ?_
      rw [HR.out]
      exact ⟨n, A, ts.length, c, rfl, below_of_grown (grown_set5 (grown_of B3.out) (Nat.le_refl _) _ _ _ _ _)⟩
    | some l =>
      obtain ⟨H, hH⟩ : ∃ H : ByteArray, H = ⟨(headL n l).toArray⟩ := ⟨_, rfl⟩
      have HR : Hid (refKey s ⟨n, ts, k, v, t⟩ = (H.toList == s.toList)) := Lib.hid (by
        unfold refKey
        rw [hc, Lib.toList_data, Lib.toList_data, hH]
        simp only
        rw [Bool.eq_iff_iff, decide_eq_true_eq, beq_iff_eq])
      rw [hc] at CK
      unfold KeyRef at CK
      simp only at CK
      rw [← hH] at CK
      have CK := Lib.hid CK
      clear hc hH
      go_wp2_with fail
      refine CK.out.mono ?_
      rintro e w3 ⟨rfl, b3⟩
      have Z3 : EvB w3 w.heap.size ⟨#[]⟩ none 0 0 0 0 0 := by unfold EvB; rw [b3.block _ (lt_of_block HZ2.out)]; exact HZ2.out
      have E3 : EvB w3 w1.heap.size n A ts.length c k v t := by unfold EvB; rw [b3.block _ (lt_of_block HE2.out)]; exact HE2.out
      have B3 := Lib.hid (B2.out.trans (b3.mono B2.out.size))
      have c0 := Z3.c0
      have c1 := Z3.c1
      have c2 := Z3.c2
      have c3 := Z3.c3
      have c4 := Z3.c4
      have f0 := Z3.f 0
      have f1 := Z3.f 1
      have f2 := Z3.f 2
      have f3 := Z3.f 3
      have f4 := Z3.f 4
      have d0 := E3.c0
      have d1 := E3.c1
      clear b3 Z3 E3 CK
      go_wp2_with fail
      refine bodyPost_ret (v := .tuple #[evVal n A ts.length c 0 0 0, .bool (H.toList == s.toList)]) (by simp [results, Tryz.results86, go_sem, evVal, c0, c1, c2, c3, c4]) rfl ?_
      rw [HR.out]
      exact ⟨n, A, ts.length, c, rfl, below_of_grown (grown_set5 (grown_of B3.out) (Nat.le_refl _) _ _ _ _ _)⟩
end Go.Proofs.YtgeahpfdaehjaaaGreatDoor
namespace Go.Proofs.YtgeahpfdaehjaaaGreatDoor
open Go.ChangeShapes Go.WideShapes Go.ChangeAt Go.RowKit Go.Sort
set_option linter.unusedVariables false

theorem rowOk_key {r : Rw} (h : keyOk r.key = false) : rowOk r = false := by
  unfold rowOk
  rw [h, Bool.and_false]
set_option maxHeartbeats 4000000 in
set_option maxRecDepth 100000 in
theorem refRow (r : Rw) (B : Option Addr) (c : Nat) (w : World) (hn : RdN w B c r.bks) (hl : r.bks.length ≤ 4611686018427387904) (hs : r.key.size ≤ 9223372036854775807) :
    Calls Tryz.prog 59 #[rowVal r B c] w (BB (rowOk r) w) := by
  have B0 := Lib.hid (below_new w (rowObj r B c))
  have CO := refOf r.key (w.alloc (rowObj r B c)) hs
  have HN := Lib.hid hn
  have HR := Lib.hid (RowB.new w r B c)
  clear hn
  unfold rowVal
  unfold rowObj at B0 CO HR
  cases hk : keyOk r.key with
  | false =>
    have HE := Lib.hid (rowOk_key hk)
    rw [hk] at CO
    have CO := Lib.hid CO
    clear hk
    go_enter Tryz.func59, Tryz.ntmps59
    go_wp2_with fail
    refine CO.out.mono ?_
    rintro e w1 ⟨n9, A9, l9, c9, rfl, b1⟩
    have R1 := HR.out.below b1 (Nat.le_refl _)
    have c7 := R1.c7
    have hz1 := R1.lt
    have B1 := Lib.hid (B0.out.trans (b1.mono (by simp)))
    unfold evVal
    clear b1 CO R1
    go_wp2_with fail
    go_ret
    exact ⟨ret_bool HE.out.symm, B1.out.alloc B1.out.size _⟩
  | true =>
    rw [hk] at CO
    have CO := Lib.hid CO
    have HK := Lib.hid hk
    clear hk
    go_enter Tryz.func59, Tryz.ntmps59
    go_wp2_with fail
    refine CO.out.mono ?_
    rintro e w1 ⟨n9, A9, l9, c9, rfl, b1⟩
    have R1 := HR.out.below b1 (Nat.le_refl _)
    have c1 := R1.c1
    have c2 := R1.c2
    have c4 := R1.c4
    have c5 := R1.c5
    have c7 := R1.c7
    have hz1 := R1.lt
    have B1 := B0.out.trans (b1.mono (by simp))
    have N1 := Lib.hid (HN.out.below B1 (Nat.le_refl _))
    unfold evVal
    have B2 := Lib.hid (B1.alloc B1.size (.cells #[.string n9, .slice A9 l9 c9, .int .i64 0, .int .i64 0, .int .i64 0] 154))
    clear b1 CO R1 B1
    by_cases h1 : 1 ≤ r.kind
    case neg =>
      have HE := Lib.hid (rowOk_not (r := r) (fun h => h1 h.1))
      have e1 : decide (r.kind < 1) = true := decide_eq_true (by omega)
      clear h1
      go_wp2_with fail
      go_ret
      exact ⟨ret_bool HE.out.symm, B2.out⟩
    have e1 : decide (r.kind < 1) = false := decide_eq_false (by omega)
    by_cases h2 : r.kind ≤ 3
    case neg =>
      have HE := Lib.hid (rowOk_not (r := r) (fun h => h2 h.2.1))
      have e2 : decide (3 < r.kind) = true := decide_eq_true (by omega)
      clear h1 h2
      go_wp2_with fail
      go_ret
      exact ⟨ret_bool HE.out.symm, B2.out⟩
    have e2 : decide (3 < r.kind) = false := decide_eq_false (by omega)
    by_cases h3 : 1 ≤ r.many
    case neg =>
      have HE := Lib.hid (rowOk_not (r := r) (fun h => h3 h.2.2.1))
      have e3 : decide ((r.many : Int) < 1) = true := decide_eq_true (by omega)
      have e3' : r.many < 1 := by omega
      clear h1 h2 h3
      go_wp2_with fail
      go_ret
      exact ⟨ret_bool HE.out.symm, B2.out⟩
    have e3 : decide ((r.many : Int) < 1) = false := decide_eq_false (by omega)
    by_cases h4 : r.least ≤ r.most
    case neg =>
      have HE := Lib.hid (rowOk_not (r := r) (fun h => h4 h.2.2.2.1))
      have e4 : decide (r.most < r.least) = true := decide_eq_true (by omega)
      clear h1 h2 h3 h4
      go_wp2_with fail
      go_ret
      exact ⟨ret_bool HE.out.symm, B2.out⟩
    have e4 : decide (r.most < r.least) = false := decide_eq_false (by omega)
    have HE0 : Hid (rowOk r = bkOk r) := Lib.hid (by rw [rowOk_of h1 h2 h3 h4, HK.out, Bool.and_true])
    clear h1 h2 h3 h4
    rcases Nat.lt_or_ge 65 r.bks.length with h65 | h65
    · have HE : Hid (rowOk r = false) := Lib.hid (by
        rw [HE0.out, Bool.eq_false_iff]
        intro h
        have := bkOk_len h
        omega)
      have e5 : decide ((65 : Int) < r.bks.length) = true := decide_eq_true (by omega)
      go_wp2_with fail
      go_ret
      exact ⟨ret_bool HE.out.symm, B2.out⟩
    have e5 : decide ((65 : Int) < r.bks.length) = false := decide_eq_false (by omega)
    by_cases hk3 : r.kind = 3
    case neg =>
      have e6 : (r.kind != 3) = true := bne_iff_ne.2 hk3
      have HE : Hid (rowOk r = ((r.bks.length : Int) == 0)) := Lib.hid (by rw [HE0.out, bk_other hk3, len_beq])
      clear hk3
      go_wp2_with fail
      go_ret
      exact ⟨ret_bool HE.out.symm, B2.out⟩
    have e6 : (r.kind != 3) = false := by rw [hk3]; rfl
    rcases Nat.eq_zero_or_pos r.bks.length with h0 | h0
    · have HE : Hid (rowOk r = false) := Lib.hid (by rw [HE0.out]; unfold bkOk; rw [if_pos hk3, decide_eq_false (p := 1 ≤ r.bks.length) (by omega)]; rfl)
      have e7 : decide ((0 : Int) < r.bks.length) = false := decide_eq_false (by omega)
      have e8 : decide (0 < r.bks.length) = false := decide_eq_false (by omega)
      clear hk3
      go_wp2_with fail
      go_ret
      exact ⟨ret_bool HE.out.symm, B2.out⟩
    · have e7 : decide ((0 : Int) < r.bks.length) = true := decide_eq_true (by omega)
      have e8 : decide (0 < r.bks.length) = true := decide_eq_true h0
      obtain ⟨n, hni⟩ : ∃ n, r.bks[r.bks.length - 1]? = some n := ⟨_, List.getElem?_eq_getElem (by omega)⟩
      have HE : Hid (rowOk r = ((n : Int) != 0)) := Lib.hid (by
        rw [HE0.out]
        unfold bkOk
        rw [if_pos hk3, decide_eq_true (show 1 ≤ r.bks.length from h0), decide_eq_true h65, hni]
        simp only [Bool.and_self, Bool.true_and, Option.getD_some]
        rw [Bool.eq_iff_iff, bne_iff_ne, bne_iff_ne]; omega)
      obtain ⟨ad, rfl⟩ := N1.out.some_of (by omega)
      have hc := N1.out.rd ad rfl _ n hni
      have hc' := (N1.out.alloc (.cells #[.string n9, .slice A9 l9 c9, .int .i64 0, .int .i64 0, .int .i64 0] 154)).rd ad rfl _ n hni
      obtain ⟨u, hu⟩ : ∃ u, r.bks.length - 1 = u := ⟨_, rfl⟩
      rw [hu] at hc hc'
      have hz : IntKind.i64.wrap ((r.bks.length : Int) - 1) = (u : Int) := by rw [IntKind.wrap_i64]; omega
      have hz' : (r.bks.length : Int) - 1 = (u : Int) := by omega
      have l0 : (u : Int) < (r.bks.length : Int) := by omega
      clear hk3 hni hu
      go_wp2_with fail
      go_ret
      exact ⟨ret_bool HE.out.symm, B2.out⟩
theorem lss_str (a b : ByteArray) : Op.bytesLess a.toList b.toList = decide (a.data.toList < b.data.toList) := lss_key a b
theorem rise_cases (a r : Rw) : (a.key = r.key ∧ riseR a r = decide (a.kind < r.kind)) ∨ (a.key ≠ r.key ∧ a.key.data.toList < r.key.data.toList ∧ ¬ r.key.data.toList < a.key.data.toList ∧ riseR a r = true) ∨ (a.key ≠ r.key ∧ r.key.data.toList < a.key.data.toList ∧ riseR a r = false) := by
  by_cases h : a.key = r.key
  · exact .inl ⟨h, riseR_same h⟩
  · by_cases hl : a.key.data.toList < r.key.data.toList
    · exact .inr (.inl ⟨h, hl, fun h2 => List.lt_asymm hl h2, by rw [riseR_other h, decide_eq_true hl]⟩)
    · refine .inr (.inr ⟨h, ?_, by rw [riseR_other h, decide_eq_false hl]⟩)
      refine List.not_le.1 (fun h2 => h (ba_ext ?_))
      exact List.le_antisymm h2 (List.not_lt.1 hl)
set_option maxHeartbeats 4000000 in
set_option maxRecDepth 100000 in
theorem refMayBt (b : Bt) (A : Option Addr) (c : Nat) (w : World) (hr : RdR w A b.rows) (hz : SizedR b.rows) :
    Calls Tryz.prog 29 #[btVal b.seq b.start A b.rows.length c] w (BB (mayOk b) w) := by
  obtain ⟨s, t, rows⟩ := b
  simp only at *
  have B0 := Lib.hid (below_new w (.cells #[.int .i64 s, .int .i64 t, .slice A rows.length c] 60))
  have T0 := Lib.hid (BtB.new w s t A rows.length c)
  have HR := Lib.hid hr
  have HZ := Lib.hid hz
  have hlz := hz.1
  clear hr hz
  unfold btVal
  by_cases h0 : 0 ≤ s
  case neg =>
    have HE := Lib.hid (mayOk_not (b := ⟨s, t, rows⟩) (fun h => h0 h.1))
    have e1 : decide (s < 0) = true := decide_eq_true (by omega)
    go_enter Tryz.func29, Tryz.ntmps29
    go_wp2_with fail
    go_ret
    exact ⟨ret_bool HE.out.symm, B0.out⟩
  have e1 : decide (s < 0) = false := decide_eq_false (by omega)
  by_cases h1 : s ≤ 2147483647
  case neg =>
    have HE := Lib.hid (mayOk_not (b := ⟨s, t, rows⟩) (fun h => h1 h.2.1))
    have e2 : decide (2147483647 < s) = true := decide_eq_true (by omega)
    go_enter Tryz.func29, Tryz.ntmps29
    go_wp2_with fail
    go_ret
    exact ⟨ret_bool HE.out.symm, B0.out⟩
  have e2 : decide (2147483647 < s) = false := decide_eq_false (by omega)
  by_cases h2 : 0 ≤ t
  case neg =>
    have HE := Lib.hid (mayOk_not (b := ⟨s, t, rows⟩) (fun h => h2 h.2.2.1))
    have e3 : decide (t < 0) = true := decide_eq_true (by omega)
    go_enter Tryz.func29, Tryz.ntmps29
    go_wp2_with fail
    go_ret
    exact ⟨ret_bool HE.out.symm, B0.out⟩
  have e3 : decide (t < 0) = false := decide_eq_false (by omega)
  by_cases h3 : t ≤ 1099511627776
  case neg =>
    have HE := Lib.hid (mayOk_not (b := ⟨s, t, rows⟩) (fun h => h3 h.2.2.2))
    have e4 : decide (1099511627776 < t) = true := decide_eq_true (by omega)
    go_enter Tryz.func29, Tryz.ntmps29
    go_wp2_with fail
    go_ret
    exact ⟨ret_bool HE.out.symm, B0.out⟩
  have e4 : decide (1099511627776 < t) = false := decide_eq_false (by omega)
  have HM := Lib.hid (mayOk_of (b := ⟨s, t, rows⟩) h0 h1 h2 h3)
  clear h0 h1 h2 h3
  by_cases h200 : rows.length ≤ 200
  case neg =>
    have HE := Lib.hid (HM.out.trans (rowsOk_many h200))
    have e5 : decide ((200 : Int) < rows.length) = true := decide_eq_true (by omega)
    go_enter Tryz.func29, Tryz.ntmps29
    go_wp2_with fail
    go_ret
    exact ⟨ret_bool HE.out.symm, B0.out⟩
  have e5 : decide ((200 : Int) < rows.length) = false := decide_eq_false (by omega)
  go_enter Tryz.func29, Tryz.ntmps29
  go_wp2_with fail
  clear e1 e2 e3 e4 e5
  go_loopg [3] (rows.length) (fun g s3 wx => ∃ i : Nat, i + g = rows.length ∧ s3 = .int .i64 i ∧ Hid ((∀ j, j < i → stepOk rows j = true) ∧ Below w.heap.size w wx ∧ BtB wx w.heap.size s t A rows.length c))
  case atStart => exact ⟨0, by omega, rfl, Lib.hid ⟨fun j hj => by omega, B0.out, T0.out⟩⟩
  case round =>
    obtain ⟨i, hig, rfl, HG⟩ := hrel
    have c2 := HG.out.2.2.c2
    cases gk with
    | zero =>
      have x1 : decide ((i : Int) < (rows.length : Int)) = false := decide_eq_false (by omega)
      have x2 : decide (i < rows.length) = false := decide_eq_false (by omega)
      have HT := Lib.hid (HM.out.trans (rowsOk_true h200 (fun j hj => HG.out.1 j (by omega))))
      go_wp2_with fail
      go_ret
      exact ⟨ret_bool HT.out.symm, HG.out.2.1⟩
    | succ g =>
      have hlt : i < rows.length := by omega
      have hltz : (i : Int) < (rows.length : Int) := by omega
      obtain ⟨r, hri⟩ : ∃ r, rows[i]? = some r := ⟨_, List.getElem?_eq_getElem hlt⟩
      have hR := HR.out.below HG.out.2.1 (Nat.le_refl _)
      obtain ⟨b, o, B, c', rfl, ha⟩ := hR.at hri
      obtain ⟨sk, sb⟩ := HZ.out.2 r (List.mem_of_getElem? hri)
      have CR := refRow r B c' wr ha.bk sb sk
      obtain ⟨p0, p1, p2, p3, p4, p5, p6, p7⟩ := ha.r8
      have HP := Lib.hid ha
      have HRI := Lib.hid hri
      have HRR := Lib.hid hR
      clear ha hR hri
      unfold rowVal at CR
      cases hro : rowOk r with
      | false =>
        have HF := Lib.hid (HM.out.trans (rowsOk_false hlt (step_row HRI.out hro)))
        rw [hro] at CR
        have CR := Lib.hid CR
        clear hro
        go_wp2_with fail
        refine CR.out.mono ?_
        rintro e w9 ⟨rfl, hb9⟩
        have B9 := Lib.hid (HG.out.2.1.trans (hb9.mono HG.out.2.1.size))
        clear hb9 CR p0 p1 p2 p3 p4 p5 p6 p7 c2
        go_wp2_with fail
        go_ret
        exact ⟨ret_bool HF.out.symm, B9.out⟩
      | true =>
        rw [hro] at CR
        have CR := Lib.hid CR
        go_wp2_with fail
        refine CR.out.mono ?_
        rintro e w9 ⟨rfl, hb9⟩
        have B9 := Lib.hid (HG.out.2.1.trans (hb9.mono HG.out.2.1.size))
        have T9 := HG.out.2.2.below hb9 (Nat.le_refl _)
        have HT9 := Lib.hid T9
        have P9 := HP.out.below hb9 (Nat.le_refl _)
        have R9 := Lib.hid (HRR.out.below hb9 (Nat.le_refl _))
        clear CR p0 p1 p2 p3 p4 p5 p6 p7 c2 hb9
        have c2 := T9.c2
        have q0 := P9.p0
        have q1 := P9.p1
        clear T9 P9
        rcases Nat.eq_zero_or_pos i with hi0 | hi0
        · have HS : Hid (∀ j, j < i + 1 → stepOk rows j = true) := Lib.hid (fun j hj => by
            obtain rfl : j = 0 := by omega
            exact step_first (by rw [← hi0]; exact HRI.out) hro)
          have x4 : decide ((0 : Int) < (i : Int)) = false := decide_eq_false (by omega)
          have x5 : decide (0 < i) = false := decide_eq_false (by omega)
          clear hro hi0
          go_wp2_with fail
          go_quiet (fail)
          all_goals go_wp2
          go_roundg g
          case rel => exact ⟨i + 1, by omega, by go_num, Lib.hid ⟨HS.out, B9.out.trans ((below_drewS w9 _).mono B9.out.size), HT9.out.drew _⟩⟩
          case measure => omega
        · obtain ⟨u, hu⟩ : ∃ u, i = u + 1 := ⟨i - 1, by omega⟩
          obtain ⟨a, hau⟩ : ∃ a, rows[u]? = some a := ⟨_, List.getElem?_eq_getElem (by omega)⟩
          have HST := Lib.hid (step_next hau (by rw [← hu]; exact HRI.out) hro)
          obtain ⟨b', o', B1, c1, hAA, ha⟩ := R9.out.at hau
          obtain ⟨rfl, rfl⟩ : b = b' ∧ o = o' := by cases hAA; exact ⟨rfl, rfl⟩
          have t0 := ha.p0
          have t1 := ha.p1
          have hz : IntKind.i64.wrap ((i : Int) - 1) = (u : Int) := by rw [IntKind.wrap_i64]; omega
          have l0 : (u : Int) < (rows.length : Int) := by omega
          have l2 : u < rows.length := by omega
          have x4 : decide ((0 : Int) < (i : Int)) = true := decide_eq_true (by omega)
          have x5 : decide (0 < i) = true := decide_eq_true (by omega)
          have HU := Lib.hid hu
          have HN : Hid (riseR a r = true → ∀ j, j < i + 1 → stepOk rows j = true) := Lib.hid (fun hrise j hj => by
            rcases Nat.lt_or_ge j i with h | h
            · exact HG.out.1 j h
            · obtain rfl : j = i := by omega
              rw [HU.out, HST.out, hrise])
          have HX : Hid (riseR a r = false → mayOk ⟨s, t, rows⟩ = false) := Lib.hid (fun hrise => HM.out.trans (rowsOk_false hlt (show stepOk rows i = false by rw [HU.out, HST.out, hrise])))
          have hcs := rise_cases a r
          clear hro hAA ha hau hu
          rcases hcs with ⟨hk, hrs⟩ | ⟨hk, h1, h2, hrs⟩ | ⟨hk, h1, hrs⟩
          · have y1 : (a.key.toList == r.key.toList) = true := beq_iff_eq.2 (by rw [hk])
            have y2 : Op.bytesLess r.key.toList a.key.toList = false := by rw [lss_str, hk]; exact decide_eq_false (List.lt_irrefl _)
            by_cases hkd : a.kind < r.kind
            · have HS := Lib.hid (HN.out (hrs.trans (decide_eq_true hkd)))
              have y3 : decide (r.kind ≤ a.kind) = false := decide_eq_false (by omega)
              clear hk hrs hkd
              go_wp2_with fail
              go_quiet (fail)
              all_goals go_wp2
              go_roundg g
              case rel => exact ⟨i + 1, by omega, by go_num, Lib.hid ⟨HS.out, B9.out.trans ((below_drewS w9 _).mono B9.out.size), HT9.out.drew _⟩⟩
              case measure => omega
            · have HF := Lib.hid (HX.out (hrs.trans (decide_eq_false hkd)))
              have y3 : decide (r.kind ≤ a.kind) = true := decide_eq_true (by omega)
              clear hk hrs hkd
              go_wp2_with fail
              go_quiet (fail)
              all_goals go_wp2
              go_ret
              exact ⟨ret_bool HF.out.symm, B9.out.trans ((below_drewS w9 _).mono B9.out.size)⟩
          · have y1 : (a.key.toList == r.key.toList) = false := beq_eq_false_iff_ne.2 (ba_ne hk)
            have y2 : Op.bytesLess a.key.toList r.key.toList = true := by rw [lss_str]; exact decide_eq_true h1
            have HS := Lib.hid (HN.out hrs)
            clear hk hrs h1 h2
            go_wp2_with fail
            go_quiet (fail)
            all_goals go_wp2
            go_roundg g
            case rel => exact ⟨i + 1, by omega, by go_num, Lib.hid ⟨HS.out, B9.out.trans ((below_drewS w9 _).mono B9.out.size), HT9.out.drew _⟩⟩
            case measure => omega
          · have y1 : (a.key.toList == r.key.toList) = false := beq_eq_false_iff_ne.2 (ba_ne hk)
            have y2 : Op.bytesLess a.key.toList r.key.toList = false := by rw [lss_str]; exact decide_eq_false (fun h2 => List.lt_asymm h1 h2)
            have HF := Lib.hid (HX.out hrs)
            clear hk hrs h1
            go_wp2_with fail
            go_quiet (fail)
            all_goals go_wp2
            go_ret
            exact ⟨ret_bool HF.out.symm, B9.out.trans ((below_drewS w9 _).mono B9.out.size)⟩
end Go.Proofs.YtgeahpfdaehjaaaGreatDoor
