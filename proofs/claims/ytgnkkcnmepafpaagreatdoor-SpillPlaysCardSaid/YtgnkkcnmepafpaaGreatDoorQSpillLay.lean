/-
  Layer 21: how both spills begin, and what a crash makes of them.
-/
import Derived.Test.YtgnkkcnmepafpaaGreatDoorQSpillPair
import Derived.Test.YtgnkkcnmepafpaaGreatDoorQDiskRef3
namespace Go.Proofs.YtgnkkcnmepafpaaGreatDoor
open Go.ChangeShapes Go.WideShapes Go.ChangeAt Go.RowKit
set_option linter.unusedVariables false

theorem flat_many : ∀ (rs : List Rc), (∀ r ∈ rs, GoodR r) → rs.length ≤ (flat rs).length
  | [], _ => Nat.le_refl _
  | r :: rs, h => by
    have h1 := flat_many rs (fun q hq => h q (by simp [hq]))
    have h2 := (h r (by simp)).1
    have h3 : (encR r).length = (enc r.length).length + r.length := by unfold encR; rw [List.length_append]
    rw [flat, List.length_append, List.length_cons]
    omega
/-- What the first bytes make of an empty disk. -/
theorem first21 {rm : Nat} {many : Int} (h0 : rm ≤ 65536) (hm : 1 ≤ many ∧ many ≤ 100) (l : List UInt8) (hl : l.length ≤ 2000) :
    ∃ G, (opAppend rm false [] 0 l).2 = G.map Sg.pt ∧ Inv rm (G.map Sg.pt) ∧ Segs G ∧ fsG G = 0 ∧ (cutG G).length ≤ 1 ∧ nxG (cutG G) ≤ 2000 ∧ GOk rm many (cutG G) := by
  by_cases hr : rm - used [] < l.length
  · refine ⟨[], ?_, Inv.nil h0, CleanG.nil.segs (by simp), rfl, by simp [cutG], ?_, GOk.nil h0 hm⟩
    · unfold opAppend
      rw [if_neg (by simp), if_neg (by omega), if_pos hr]
      rfl
    · show (0 : Int) ≤ 2000
      omega
  · obtain ⟨rs, t, e, hg, ht⟩ := parse_all l.length l (Nat.le_refl _)
    have hlen : (flat rs).length + t.length = l.length := by rw [e, List.length_append]
    have hu : used [] = 0 := rfl
    have hmany := flat_many rs hg
    have hrs : recs [(⟨0, rs, t, 0⟩ : Sg)] = rs := by rw [recs_cons, recs_nil, List.append_nil]
    have hcl : CleanG (cutG [(⟨0, rs, t, 0⟩ : Sg)]) := by
      refine ⟨⟨rfl, trivial⟩, fun g hg2 => ?_, fun g hg2 => ?_, fun g hg2 => by simp [cutG] at hg2, fun g hg2 => ?_, Int.le_refl _, ?_⟩
      · simp [cutG] at hg2; subst hg2; rfl
      · simp [cutG] at hg2; subst hg2; rfl
      · simp [cutG] at hg2; subst hg2; exact hg
      · rw [nxG_eq, cut_recs, hrs, cut_fs, fsG_cons]
        show (0 : Int) + _ ≤ _
        omega
    have hnx : nxG (cutG [(⟨0, rs, t, 0⟩ : Sg)]) ≤ 2000 := by
      rw [nxG_eq, cut_recs, hrs, cut_fs, fsG_cons]
      show (0 : Int) + _ ≤ _
      omega
    refine ⟨[⟨0, rs, t, 0⟩], ?_, ?_, ⟨fun g hg2 => ?_, ⟨0, rfl, trivial⟩, fun g hg2 => ?_, by simp, by rw [hrs]; omega⟩, rfl, by simp [cutG], hnx, ⟨hcl, ?_, by simp [cutG], by omega, hm⟩⟩
    · unfold opAppend
      rw [if_neg (by simp), if_neg (by omega), if_neg hr]
      show [(⟨0, l, 0⟩ : Pt)] = [⟨0, flat rs ++ t, 0⟩]
      rw [← e]
    · refine ⟨List.pairwise_singleton _ _, fun p hp => ?_, fun p hp => ?_, fun p hp => ?_, ?_, h0⟩
      · simp [Sg.pt] at hp; subst hp; exact Int.le_refl _
      · simp [Sg.pt] at hp; subst hp; show (0 : Int) ≤ _; omega
      · simp [Sg.pt] at hp; subst hp; exact Nat.zero_le _
      · show (flat rs ++ t).length + 0 ≤ rm
        rw [List.length_append]
        omega
    · simp at hg2; subst hg2; exact ⟨hg, ht⟩
    · simp at hg2; subst hg2; exact ⟨Int.le_refl _, by show (0 : Int) ≤ _; omega⟩
    · rw [cut_pts]
      refine ⟨List.pairwise_singleton _ _, fun p hp => ?_, fun p hp => ?_, fun p hp => ?_, ?_, h0⟩
      · simp [Sg.cut] at hp; subst hp; exact Int.le_refl _
      · simp [Sg.cut] at hp; subst hp; show (0 : Int) ≤ _; omega
      · simp [Sg.cut] at hp; subst hp; exact Nat.le_refl _
      · show (flat rs).length + 0 ≤ rm
        omega
theorem ok21 {rm : Nat} {many room : Int} {G : List Sg} (hr : 1 ≤ room ∧ room ≤ 1000) (hg : GOk rm many (cutG G)) (hf : fsG G = 0) (hok : recOk (fsG G) (recs G) = true) : SOk rm many room 0 (cutG G) where
  g := hg
  rec_ := recOk_rec (by rw [cut_fs, cut_recs]; exact hok)
  h0 := by rw [cut_fs, hf]; exact Int.le_refl _
  h1 := by have := nx_lo hg.clean; have := hg.clean.lo; omega
  r := hr
section
variable {W w w' : World} {K M F : Nat → Prop} {sp ad ms mj m rm : Nat} {dn : Bool} {many room head : Int} {G : List Sg} {L : List Pt}
/-- The document's spill as it is laid. -/
def lay21 (w : World) (rm : Nat) (many room : Int) : World := ((w.alloc (.cells #[.int .i64 (rm : Nat), .slice none 0 0, .bool false] 35)).alloc (.cells #[.pointer (some ⟨w.heap.size, 0, none⟩), .int .i64 many] 37)).alloc (.cells #[.pointer (some ⟨w.heap.size + 1, 0, none⟩), .int .i64 room, .int .i64 0] 39)
theorem lay_two (hd : Dsk w F ad rm false []) (hL : Laid w) (hF : ∀ g, F g → W.heap.size ≤ g) (hb : Below W.heap.size W w) (hW : 6 ≤ W.heap.size) :
    Two W (lay21 w rm many room) (PDk ad rm false []) (QSp (w.heap.size + 2) (w.heap.size + 1) w.heap.size rm false many room 0 []) := by
  have b1 := (Below.refl w.heap.size w).alloc (Nat.le_refl _) (.cells #[.int .i64 (rm : Nat), .slice none 0 0, .bool false] 35)
  have b2 := b1.alloc b1.size (.cells #[.pointer (some ⟨w.heap.size, 0, none⟩), .int .i64 many] 37)
  have b3 : Below w.heap.size w (lay21 w rm many room) := b2.alloc b2.size _
  have hs := hb.size
  have c1 := heap_alloc_new w (.cells #[.int .i64 (rm : Nat), .slice none 0 0, .bool false] 35)
  have c2 := heap_alloc_new (w.alloc (.cells #[.int .i64 (rm : Nat), .slice none 0 0, .bool false] 35)) (.cells #[.pointer (some ⟨w.heap.size, 0, none⟩), .int .i64 many] 37)
  have c3 := heap_alloc_new ((w.alloc (.cells #[.int .i64 (rm : Nat), .slice none 0 0, .bool false] 35)).alloc (.cells #[.pointer (some ⟨w.heap.size, 0, none⟩), .int .i64 many] 37)) (.cells #[.pointer (some ⟨w.heap.size + 1, 0, none⟩), .int .i64 room, .int .i64 0] 39)
  have d2 := below_new (w.alloc (.cells #[.int .i64 (rm : Nat), .slice none 0 0, .bool false] 35)) (.cells #[.pointer (some ⟨w.heap.size, 0, none⟩), .int .i64 many] 37)
  have d3 := below_new ((w.alloc (.cells #[.int .i64 (rm : Nat), .slice none 0 0, .bool false] 35)).alloc (.cells #[.pointer (some ⟨w.heap.size, 0, none⟩), .int .i64 many] 37)) (.cells #[.pointer (some ⟨w.heap.size + 1, 0, none⟩), .int .i64 room, .int .i64 0] 39)
  have e0 : (lay21 w rm many room).heap[w.heap.size]? = some (.cells #[.int .i64 (rm : Nat), .slice none 0 0, .bool false] 35 (0, 0)) :=
    (d3.block _ (by rw [World.size_alloc, World.size_alloc]; omega)).trans ((d2.block _ (by rw [World.size_alloc]; omega)).trans c1)
  have e1 : (lay21 w rm many room).heap[w.heap.size + 1]? = some (.cells #[.pointer (some ⟨w.heap.size, 0, none⟩), .int .i64 many] 37 (0, 0)) := by
    rw [World.size_alloc] at c2
    exact (d3.block _ (by rw [World.size_alloc, World.size_alloc]; omega)).trans c2
  have e2 : (lay21 w rm many room).heap[w.heap.size + 2]? = some (.cells #[.pointer (some ⟨w.heap.size + 1, 0, none⟩), .int .i64 room, .int .i64 0] 39 (0, 0)) := by
    rw [World.size_alloc, World.size_alloc] at c3
    exact c3
  refine ⟨F, fun g => footR w.heap.size none g ∨ g = w.heap.size + 1 ∨ g = w.heap.size + 2, ⟨hd.below b3, hL.below b3, fun g hg => Nat.le_trans hW (hF g hg)⟩, ⟨e2, footR w.heap.size none, ⟨e1, none, 0, ⟨e0, World.ownsRow_nil _ _ _ _⟩, fun g => Iff.rfl⟩, fun e => ?_, by omega, fun g => Iff.rfl⟩, fun g hg hm => ?_, hF, fun g hg => ?_, hb.trans (b3.mono hs), hW⟩
  · rcases e with e | ⟨_, e, _⟩
    · omega
    · cases e
  · have := hd.lt hg
    rcases hm with (e | ⟨_, e, _⟩) | e | e
    · omega
    · cases e
    · omega
    · omega
  · rcases hg with (e | ⟨_, e, _⟩) | e | e
    · omega
    · cases e
    · omega
    · omega
theorem firstP (h : PDk ad rm false [] w F) (h0 : rm ≤ 65536) {B : Option Addr} {cb : Nat} {l : List UInt8} (hr : RdS w B cb l) (hl : l.length ≤ 2000) :
    Calls Tryz.prog 7 #[.pointer (some ⟨ad, 0, none⟩), .int .i64 0, .slice B l.length cb] w fun e w' => ∃ c : Nat, e = .returned (ErrV c) ∧ ∃ F', PDk ad rm false (opAppend rm false [] 0 l).2 w' F' ∧ Mv8 w F w' F' := by
  obtain ⟨hd, hL, hlo⟩ := h
  refine (appendD w F ad rm false [] 0 B cb l hd hr (Inv.nil h0) (by simp) (by omega) (by omega)).mono ?_
  rintro e w' ⟨rfl, F', d, m⟩
  have hn := hL.n
  refine ⟨_, rfl, F', ⟨d, hL.keep (fun i hi => m.keeps.block i (by omega) (fun e => by have := hlo i e; omega)) m.keeps.size, fun g hg => ?_⟩, m⟩
  rcases m.own g hg with e | e
  · exact hlo g e
  · omega
theorem Rsp.disk {dn' : Bool} {L' : List Pt} (h : Rsp w K ms mj m rm dn many room head L) {f : FuncId} {args : Array Value} {E : Ending → Prop}
    (hc : ∀ H, Rfd w H m rm dn L → Calls Tryz.prog f args w fun e w' => E e ∧ ∃ H', Rfd w' H' m rm dn' L' ∧ Mv8 w H w' H') :
    Calls Tryz.prog f args w fun e w' => E e ∧ ∃ K', Rsp w' K' ms mj m rm dn' many room head L' ∧ Mv8 w K w' K' :=
  h.call (fun H j => (hc H j.rf).mono fun e w' ⟨he, H', r, mv⟩ => ⟨he, H', j.step r mv, mv⟩)
theorem firstQ (h : QSp ms mj m rm false many room head [] w M) (h0 : rm ≤ 65536) {l : List UInt8} (hl : l.length ≤ 2000) :
    Calls Tryz.prog 8 #[.pointer (some ⟨m, 0, none⟩), .int .i64 0, .string ⟨l.toArray⟩] w fun e w' => e = .returned (.int .i64 ((opAppend rm false [] 0 l).1 : Nat)) ∧ ∃ M', QSp ms mj m rm false many room head (opAppend rm false [] 0 l).2 w' M' ∧ Mv8 w M w' M' :=
  Rsp.disk h (fun H r => refAppend w H m rm false [] 0 l r (Inv.nil h0) (by simp) (by omega) (by omega))
/-- Nothing of the program's. -/
def PNo : Side := fun w K => ∀ g, K g → g < w.heap.size
theorem PNo.closed : Closed PNo where
  keeps := fun h k _ _ g hg => Nat.lt_of_lt_of_le (h g hg) k.size
  lt := fun h g hg => h g hg
theorem openP_ok (h : PDk ad rm dn (G.map Sg.pt) w F) (hi : Inv rm (G.map Sg.pt)) (hs : Segs G) (hm : 1 ≤ many ∧ many ≤ 100) (hr : 1 ≤ room ∧ room ≤ 1000) (hok : recOk (fsG G) (recs G) = true) :
    Calls Tryz.prog 9 #[.pointer (some ⟨ad, 0, none⟩), .int .i64 many, .int .i64 room] w fun e w' => ∃ sp, e = .returned (.tuple #[.pointer (some ⟨sp, 0, none⟩), .nilIface]) ∧ ∃ K', PSp sp ad rm many room (fsG G) (cutG G) w' K' ∧ Mv8 w F w' K' := by
  obtain ⟨hd, hL, hlo⟩ := h
  refine (openS hL hlo hd hi hs hm hr).mono ?_
  rintro e w' (⟨_, sp, aj, K', rfl, s, mv⟩ | ⟨h, _⟩)
  · exact ⟨sp, rfl, K', ⟨aj, s⟩, mv⟩
  · rw [hok] at h; cases h
theorem openP_no (h : PDk ad rm dn (G.map Sg.pt) w F) (hi : Inv rm (G.map Sg.pt)) (hs : Segs G) (hm : 1 ≤ many ∧ many ≤ 100) (hr : 1 ≤ room ∧ room ≤ 1000) (hok : recOk (fsG G) (recs G) = false) :
    Calls Tryz.prog 9 #[.pointer (some ⟨ad, 0, none⟩), .int .i64 many, .int .i64 room] w fun e w' => ∃ sp : Unit, e = .returned (.tuple #[.pointer none, .iface 45 (.int .i64 2)]) ∧ ∃ K', PNo w' K' ∧ Mv8 w F w' K' := by
  obtain ⟨hd, hL, hlo⟩ := h
  refine (openS hL hlo hd hi hs hm hr).mono ?_
  rintro e w' (⟨h, _⟩ | ⟨_, rfl, F', mv⟩)
  · rw [hok] at h; cases h
  · exact ⟨(), rfl, F, fun g hg => Nat.lt_of_lt_of_le (hd.lt hg) mv.keeps.size, mv.keeps, fun g hg => .inl hg⟩
theorem openQ (h : QSp ms mj m rm dn many room head (G.map Sg.pt) w M) (hs : Segs G) (hi : Inv rm (G.map Sg.pt)) (hlo : 0 ≤ fsG G ∧ fsG G ≤ 1000000) :
    Calls Tryz.prog 10 #[.pointer (some ⟨ms, 0, none⟩)] w fun e w' => e = .returned (.bool (recOk (fsG G) (recs G))) ∧ ∃ M', QSp ms mj m rm false many room (fsG G) (pts' (cutG G)) w' M' ∧ Mv8 w M w' M' := rs_open h hs hi hlo
theorem crashP (h : PSp sp ad rm many room head G w K) (ok : GOk rm many G) (k : Int) (hk : k ≤ 9223372036854775807) :
    Calls Tryz.prog 18 #[.pointer (some ⟨ad, 0, none⟩), .int .i64 k] w fun e w' => ∃ u : Unit, e = .returned (.tuple #[]) ∧ ∃ K', PDk ad rm true (pts' G) w' K' ∧ Mv8 w K w' K' := by
  obtain ⟨aj, h⟩ := h
  refine (crashS h ok k hk).mono ?_
  rintro e w' ⟨rfl, hL, F', d, lo, mv⟩
  exact ⟨(), rfl, F', ⟨d, hL, lo⟩, mv⟩
theorem crashQ (h : QSp ms mj m rm false many room head (pts' G) w M) (ok : GOk rm many G) (k : Int) (hk : k ≤ 9223372036854775807) :
    Calls Tryz.prog 19 #[.pointer (some ⟨m, 0, none⟩), .int .i64 k] w fun e w' => e = .returned (.tuple #[]) ∧ ∃ M', QSp ms mj m rm true many room head (pts' G) w' M' ∧ Mv8 w M w' M' :=
  Rsp.disk h (fun H r => by
    have := refCrash w H m rm false (pts' G) k r ok.inv ok.plen hk
    rw [show RefCrash w H m rm false (pts' G) k = fun e w' => e = .returned (.tuple #[]) ∧ ∃ G', Rfd w' G' m rm true (pts' G) ∧ Mv8 w H w' G' by unfold RefCrash; rw [clean_crash ok.clean]] at this
    exact this)
end
end Go.Proofs.YtgnkkcnmepafpaaGreatDoor
