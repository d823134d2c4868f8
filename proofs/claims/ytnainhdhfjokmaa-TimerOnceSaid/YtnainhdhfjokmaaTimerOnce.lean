/-
  Layer 13: the law TimerOnce: two queues and a row of one's own beside each other.
-/
import Derived.Test.YtnainhdhfjokmaaTimerDeeds
import Derived.Deep.RegionHeldLaw
namespace Go.Proofs.Ytnainhdhfjokmaa
open Go.ChangeShapes Go.WideShapes Go.ChangeAt Go.RowKit Go.Shelf Go.Deep
set_option linter.unusedVariables false

structure On (W w : World) (F : Nat → Prop) (a : Nat) (Lp : List Du) (G : Nat → Prop) (b : Nat) (Lq : List Du) (v : Value) (l : List Du) : Prop where
  bel : Below W.heap.size W w
  p : Qu w F a Lp
  q : Qu w G b Lq
  r : OwnD w 0 v l
  fN : ∀ g, F g → W.heap.size ≤ g
  gN : ∀ g, G g → W.heap.size ≤ g
  rN : ∀ g, v.ownBlock = some g → W.heap.size ≤ g
  fg : ∀ g, F g → ¬ G g
  rf : ∀ g, v.ownBlock = some g → ¬ F g
  rg : ∀ g, v.ownBlock = some g → ¬ G g
section
variable {W w w' : World} {F F' G G' : Nat → Prop} {a b : Nat} {Lp Lq L' l M : List Du} {v v' : Value}
theorem On.rlt (h : On W w F a Lp G b Lq v l) {g : Nat} (hg : v.ownBlock = some g) : g < w.heap.size := (h.r.block hg).2.1
theorem On.still (h : On W w F a Lp G b Lq v l) (k : Below w.heap.size w w') : On W w' F a Lp G b Lq v l :=
  ⟨h.bel.trans (k.mono h.bel.size), h.p.still k, h.q.still k, own_still h.r k, h.fN, h.gN, h.rN, h.fg, h.rf, h.rg⟩
theorem On.turnP (h : On W w F a Lp G b Lq v l) (q' : Qu w' F' a L') (m : Mv8 w F w' F') : On W w' F' a L' G b Lq v l :=
  ⟨h.bel.trans (m.keeps.below h.fN h.bel.size), q', h.q.keeps m.keeps (fun g hg e => h.fg g e hg), h.r.keeps m.keeps h.rf,
   fun g hg => by
    rcases m.own g hg with e | e
    · exact h.fN g e
    · have := h.bel.size; omega, h.gN, h.rN,
   fun g hg hG => by
    rcases m.own g hg with e | e
    · exact h.fg g e hG
    · have := h.q.lt hG; omega,
   fun g hg hF => by
    rcases m.own g hF with e | e
    · exact h.rf g hg e
    · have := h.rlt hg; omega, h.rg⟩
theorem On.turnQ (h : On W w F a Lp G b Lq v l) (q' : Qu w' G' b L') (m : Mv8 w G w' G') : On W w' F a Lp G' b L' v l :=
  ⟨h.bel.trans (m.keeps.below h.gN h.bel.size), h.p.keeps m.keeps h.fg, q', h.r.keeps m.keeps h.rg, h.fN,
   fun g hg => by
    rcases m.own g hg with e | e
    · exact h.gN g e
    · have := h.bel.size; omega, h.rN,
   fun g hF hG => by
    rcases m.own g hG with e | e
    · exact h.fg g hF e
    · have := h.p.lt hF; omega, h.rf,
   fun g hg hG => by
    rcases m.own g hG with e | e
    · exact h.rg g hg e
    · have := h.rlt hg; omega⟩
/-- 'all = append(all, l...)'. -/
theorem On.app {A : Option Addr} {n cap : Nat} {B : Option Addr} {m cb : Nat} (h : On W w F a Lp G b Lq (.slice A n cap) l) (hs : SrcD w B cb M) (hm : M.length = m) (hl : n + m ≤ 1000) :
    ∃ A' c' w', (Builtin.append_ #[26, 26] 26 #[.slice A n cap, .slice B m cb]).run Try.prog w = .ok (.slice A' (n + m) c') w' ∧ On W w' F a Lp G b Lq (.slice A' (n + m) c') (l ++ M) := by
  obtain ⟨_, hn⟩ := src_shape h.r
  subst hm
  obtain ⟨v', w', hrun, hown, hgr, hat⟩ := ownD_app h.r hs (by omega) (Nat.zero_le _)
  obtain ⟨A2, c2, rfl⟩ := own_shape hown (n := n + M.length) (by rw [List.length_append, hn])
  have k : Keeps (fun g => (Value.slice A n cap).ownBlock = some g) w w' := Keeps.of_grown hgr (fun g e => e)
  have hb := h.bel.size
  refine ⟨A2, c2, w', hrun, h.bel.trans (k.below h.rN h.bel.size), h.p.keeps k (fun g hg e => h.rf g e hg), h.q.keeps k (fun g hg e => h.rg g e hg), hown, h.fN, h.gN, fun g hg => ?_, h.fg, fun g hg hF => ?_, fun g hg hG => ?_⟩
  · rcases hat with e | e
    · rw [e] at hg; exact h.rN g hg
    · rw [e] at hg; cases hg; exact hb
  · rcases hat with e | e
    · rw [e] at hg; exact h.rf g hg hF
    · rw [e] at hg; cases hg; have := h.p.lt hF; omega
  · rcases hat with e | e
    · rw [e] at hg; exact h.rg g hg hG
    · rw [e] at hg; cases hg; have := h.q.lt hG; omega
/-- More are due later on. -/
theorem cut_more {L : List Du} {k m : Nat} {now : Int} (hk : k ≤ L.length) (lo : ∀ (i : Nat) (d : Du), i < k → L[i]? = some d → d.1 ≤ now) (h' : CutAt (L.drop k) now m) : CutAt L now (k + m) := by
  have h2 := h'.le
  rw [List.length_drop] at h2
  refine ⟨by omega, fun i e hi he => ?_, fun i e hi he => ?_⟩
  · by_cases hik : i < k
    · exact lo i e hik he
    · exact h'.lo (i - k) e (by omega) (by rw [List.getElem?_drop, show k + (i - k) = i by omega]; exact he)
  · exact h'.hi (i - k) e (by omega) (by rw [List.getElem?_drop, show k + (i - k) = i by omega]; exact he)
theorem take_more (L : List Du) (k m : Nat) : L.take k ++ (L.drop k).take m = L.take (k + m) := (List.take_add ..).symm
theorem drop_more (L : List Du) (k m : Nat) : (L.drop k).drop m = L.drop (k + m) := List.drop_drop ..
end
set_option maxRecDepth 100000 in
theorem once_many1 (A : Option Addr) (c n : Nat) (B : Option Addr) (cb m : Nat) (W : World) (h : 50 < n) (hn : n ≤ 9223372036854775807) (hm : m ≤ 9223372036854775807) :
    Calls Try.prog 4 #[.slice A n c, .slice B m cb] W (Holds W) := by
  have CU := Lib.hid (up_timer W)
  have CN := Lib.hid new_walk
  have i3 : (50 : Int) < n := by omega
  go_enter Try.func4, Try.ntmps4
  go_wp2_with fail
  refine CU.out.mono ?_
  rintro e w1 ⟨rfl, b1⟩
  have B1 := Lib.hid b1
  clear b1 CU
  go_wp2_with fail
  refine (CN.out _).mono ?_
  rintro e w2 ⟨rfl, q2, b2⟩
  have B2 := Lib.hid (B1.out.trans (b2.mono B1.out.size))
  clear b2 q2
  go_wp2_with fail
  refine (CN.out _).mono ?_
  rintro e w3 ⟨rfl, q3, b3⟩
  have B3 := Lib.hid (B2.out.trans (b3.mono B2.out.size))
  clear b3 q3
  go_wp2_with fail
  go_ret
  exact ⟨rfl, B3.out⟩
set_option maxRecDepth 100000 in
theorem once_many2 (A : Option Addr) (c n : Nat) (B : Option Addr) (cb m : Nat) (W : World) (h : ¬ 50 < n) (h2 : 50 < m) (hm : m ≤ 9223372036854775807) :
    Calls Try.prog 4 #[.slice A n c, .slice B m cb] W (Holds W) := by
  have CU := Lib.hid (up_timer W)
  have CN := Lib.hid new_walk
  have i3 : ¬ (50 : Int) < n := by omega
  have i4 : (50 : Int) < m := by omega
  go_enter Try.func4, Try.ntmps4
  go_wp2_with fail
  refine CU.out.mono ?_
  rintro e w1 ⟨rfl, b1⟩
  have B1 := Lib.hid b1
  clear b1 CU
  go_wp2_with fail
  refine (CN.out _).mono ?_
  rintro e w2 ⟨rfl, q2, b2⟩
  have B2 := Lib.hid (B1.out.trans (b2.mono B1.out.size))
  clear b2 q2
  go_wp2_with fail
  refine (CN.out _).mono ?_
  rintro e w3 ⟨rfl, q3, b3⟩
  have B3 := Lib.hid (B2.out.trans (b3.mono B2.out.size))
  clear b3 q3
  go_wp2_with fail
  go_ret
  exact ⟨rfl, B3.out⟩
theorem once_many (A : Option Addr) (c n : Nat) (B : Option Addr) (cb m : Nat) (W : World) (h : 50 < n ∨ 50 < m) (hn : n ≤ 9223372036854775807) (hm : m ≤ 9223372036854775807) :
    Calls Try.prog 4 #[.slice A n c, .slice B m cb] W (Holds W) := by
  by_cases h1 : 50 < n
  · exact once_many1 A c n B cb m W h1 hn hm
  · exact once_many2 A c n B cb m W h1 (by omega) hm
/-- The state while both are filled. -/
def O1 (W w : World) (a b : Nat) (i : Nat) : Prop := ∃ F G L, On W w F a L G b L (.slice none 0 0) [] ∧ Srt L ∧ L.length = i
/-- The state while the one is emptied. -/
structure O2 (W w : World) (F : Nat → Prop) (a b : Nat) (G : Nat → Prop) (L : List Du) (k : Nat) (now : Nat) (A : Option Addr) (c : Nat) : Prop where
  o : On W w F a (L.drop k) G b L (.slice A k c) (L.take k)
  srt : Srt L
  le : k ≤ L.length
  lo : ∀ (j : Nat) (d : Du), j < k → L[j]? = some d → d.1 ≤ (now : Int)
set_option maxRecDepth 100000 in
set_option maxHeartbeats 4000000 in
theorem once_walk (A : Option Addr) (c : Nat) (l : List Int) (B : Option Addr) (cb : Nat) (r : List Int) (W : World) (hA : RdI W A l) (hB : RdI W B r) (hn : l.length ≤ 50) (hm : r.length ≤ 50) (hf : ∀ x ∈ l, InI x) (hg : ∀ x ∈ r, InI x) :
    Calls Try.prog 4 #[.slice A l.length c, .slice B r.length cb] W (Holds W) := by
  have CU := Lib.hid (up_timer W)
  have CN := Lib.hid new_walk
  have HA := Lib.hid hA
  have HB := Lib.hid hB
  have HF := Lib.hid hf
  have HG := Lib.hid hg
  have sD := stoodD
  have gD := eqgD
  obtain ⟨N, hN⟩ : ∃ N, l.length = N := ⟨_, rfl⟩
  have HN := Lib.hid hN
  rw [hN] at hn ⊢
  obtain ⟨M, hM⟩ : ∃ M, r.length = M := ⟨_, rfl⟩
  have HM := Lib.hid hM
  rw [hM] at hm ⊢
  have i3 : ¬ (50 : Int) < N := by omega
  have i4 : ¬ (50 : Int) < M := by omega
  clear hA hB hf hg hN hM
  go_enter Try.func4, Try.ntmps4
  go_wp2_with fail
  refine CU.out.mono ?_
  rintro e w1 ⟨rfl, b1⟩
  have B1 := Lib.hid b1
  clear b1 CU
  go_wp2_with fail
  refine (CN.out _).mono ?_
  rintro e w2 ⟨rfl, q2, b2⟩
  obtain ⟨a, ha⟩ : ∃ a, w1.heap.size = a := ⟨_, rfl⟩
  rw [ha] at q2 ⊢
  have Q2 := Lib.hid q2
  have B2 := Lib.hid (B1.out.trans (b2.mono B1.out.size))
  have A2 := Lib.hid (show a < w2.heap.size from q2.lt rfl)
  have HW := Lib.hid (show W.heap.size ≤ a by have := B1.out.size; omega)
  clear b2 q2 ha
  go_wp2_with fail
  refine (CN.out _).mono ?_
  rintro e w3 ⟨rfl, q3, b3⟩
  obtain ⟨b, hb⟩ : ∃ b, w2.heap.size = b := ⟨_, rfl⟩
  have S3 : Hid (O1 W w3 a b 0) := Lib.hid ⟨fun g => g = a, fun g => g = b, [], ⟨B2.out.trans (b3.mono B2.out.size), Q2.out.still b3, by rw [← hb]; exact q3, OwnD.nil _ _, fun g hg => by
      have hg : g = a := hg
      have := HW.out
      omega, fun g hg => by
      have hg : g = b := hg
      have := HW.out
      have := A2.out
      omega, fun g hg => by (cases hg), fun g hg hg' => by
      have hg : g = a := hg
      have hg' : g = b := hg'
      have := A2.out
      omega, fun g hg => by (cases hg), fun g hg => by (cases hg)⟩, Srt.nil, rfl⟩
  rw [hb]
  clear b3 q3 hb CN Q2 B1 B2 A2 HW
  go_wp2_with fail
  go_loopg [8] N (fun g s8 wx => ∃ i : Nat, i + g = N ∧ s8 = .int .i64 (i : Nat) ∧ Hid (O1 W wx a b i))
  case atStart => exact ⟨0, by omega, rfl, S3⟩
  case round =>
    clear S3
    obtain ⟨i, hi, rfl, HO⟩ := hrel
    have HI := Lib.hid hi
    clear hi
    cases gk with
    | zero =>
      obtain rfl : i = N := by have := HI.out; omega
      obtain ⟨F0, G, L, hO, hS, hL⟩ := HO.out
      have T0 : Hid (O2 W wr F0 a b G L 0 0 none 0) := Lib.hid ⟨hO, hS, Nat.zero_le _, fun j d hj _ => by omega⟩
      have HL := Lib.hid hL
      clear hO hS hL HO HI
      go_wp2_with fail
      go_loopg [12, 13, 14] M (fun g s12 s13 s14 wx => ∃ (j k now : Nat) (A8 : Option Addr) (c8 : Nat) (F : Nat → Prop), j + g = M ∧ s12 = .slice A8 k c8 ∧ s13 = .int .i64 (now : Nat) ∧ s14 = .int .i64 (j : Nat) ∧ now ≤ j * 100 ∧ Hid (O2 W wx F a b G L k now A8 c8))
      case atStart => exact ⟨0, 0, 0, none, 0, F0, by omega, rfl, rfl, rfl, by omega, T0⟩
      case round =>
        clear T0
        obtain ⟨j, k, now, A8, c8, F, hj, rfl, rfl, rfl, hnow, HT⟩ := hrel
        have HJ := Lib.hid hj
        have hnow2 : (now : Int) ≤ 5000 := by omega
        have HNOW := Lib.hid hnow
        clear hj hnow
        cases gk with
        | zero =>
          obtain rfl : j = M := by have := HJ.out; omega
          obtain ⟨m, hcut⟩ := cut_some (HT.out.srt.drop k) (now : Int)
          have hml : k + m ≤ i := by have h1 := hcut.le; have h2 := HT.out.le; have h3 := HL.out; rw [List.length_drop] at h1; omega
          have hlen : ((L.drop k).take m).length = m := by have h1 := hcut.le; rw [List.length_take]; omega
          have C1 := Lib.hid (take_walk HT.out.o.p hcut (by have := HL.out; rw [List.length_drop]; omega))
          have HCUT := Lib.hid (cut_more HT.out.le HT.out.lo hcut)
          have HLEN := Lib.hid hlen
          clear hcut hlen
          go_wp2_with fail
          refine C1.out.mono ?_
          rintro e w4 ⟨vl, rfl, ol, q4, m4⟩
          have hO4 := HT.out.o.turnP q4 m4
          obtain ⟨Al, cl, rfl⟩ := own_shape ol HLEN.out
          obtain ⟨A9, c9, w5, r5, hO5⟩ := hO4.app (src_shape ol).1 HLEN.out (by omega)
          rw [take_more, drop_more] at hO5
          have HO5 := Lib.hid hO5
          have R5 := Lib.hid r5
          have C2 := Lib.hid (take_walk hO5.q HCUT.out (by have := HL.out; omega))
          clear C1 ol q4 m4 hO4 r5 hO5
          go_wp2_with (first
            | (at_builtin; refine wpList_append_two rfl (.tmp 104) (.tmp 107) 26 26 rfl _ _ _ rfl rfl R5.out ?_)
            | fail)
          refine C2.out.mono ?_
          rintro e w6 ⟨vq, rfl, oq, q6, m6⟩
          have HO6 := Lib.hid (HO5.out.turnQ q6 m6)
          have hlq : (L.take (k + m)).length = k + m := by have := HL.out; rw [List.length_take]; omega
          obtain ⟨Aq, cq, rfl⟩ := own_shape oq hlq
          have C3 := Lib.hid (len_walk HO6.out.q)
          have hd : (L.drop (k + m)).length = i - (k + m) := by rw [List.length_drop, HL.out]
          rw [hd] at C3
          have OQ := Lib.hid oq
          have HLQ := Lib.hid hlq
          obtain ⟨K, hK⟩ : ∃ K, k + m = K := ⟨_, rfl⟩
          rw [hK] at C3 HO6 OQ HLQ hml ⊢
          have z1 : (K : Int) + ((i - K : Nat) : Int) = (i : Int) := by omega
          have z2 : IntKind.i64.wrap ((K : Int) + ((i - K : Nat) : Int)) = (i : Int) := by rw [IntKind.wrap_i64]; omega
          generalize i - K = I2 at *
          clear C2 oq q6 m6 hd hlq hK R5 HO5 HT
          go_wp2_with fail
          refine C3.out.mono ?_
          rintro e w7 ⟨rfl, rfl⟩
          clear C3
          go_wp2_with fail
          go_loopg [18] K (fun g s18 wx => ∃ t : Nat, t + g = K ∧ s18 = .int .i64 (t : Nat) ∧ Hid (∃ q, wx = w7.drewN q))
          case atStart => exact ⟨0, by omega, rfl, Lib.hid ⟨0, rfl⟩⟩
          case round =>
            obtain ⟨t, ht, rfl, HQ⟩ := hrel
            have HTT := Lib.hid ht
            clear ht
            obtain ⟨q, rfl⟩ := HQ.out
            cases gk with
            | zero =>
              obtain rfl : t = K := by have := HTT.out; omega
              have END := Lib.hid (HO6.out.still (below_drewN w7 q)).bel
              go_wp2_with fail
              go_ret
              exact ⟨rfl, END.out⟩
            | succ g =>
              have x2 : (t : Int) < K := by have := HTT.out; omega
              have htk : t < K := by omega
              obtain ⟨d, hd⟩ : ∃ d, (L.take K)[t]? = some d := ⟨(L.take K)[t]'(by rw [HLQ.out]; exact htk), List.getElem?_eq_getElem _⟩
              obtain ⟨g1, c1, e1, hx1, h1⟩ := OQ.out.at hd
              rw [HLQ.out] at e1
              cases e1
              obtain ⟨g2, c2, e2, hx2, h2⟩ := HO6.out.r.at hd
              rw [HLQ.out] at e2
              cases e2
              obtain ⟨y1, y2⟩ := h1 w7 (Below.refl _ _)
              obtain ⟨y3, y4⟩ := h2 w7 (Below.refl _ _)
              clear hd hx1 h1 hx2 h2 htk
              go_wp2_with fail
              go_quiet (fail)
              go_wp2_with fail
              go_roundg g
              case rel => exact ⟨t + 1, by have := HTT.out; omega, by go_num, Lib.hid ⟨q + nq, by rw [← drew_drew]⟩⟩
              case measure => omega
        | succ g =>
          have x2 : (j : Int) < M := by have := HJ.out; omega
          obtain ⟨x, hx⟩ : ∃ x, r[j]? = some x := ⟨r[j]'(by have := HM.out; have := HJ.out; omega), List.getElem?_eq_getElem _⟩
          obtain ⟨b0, o, rfl, hat⟩ := HB.out.at hx
          have hfx := HG.out x (List.mem_of_getElem? hx)
          have CP := Lib.hid (fun w => pick_walk w x 100 hfx (by omega) (by omega))
          have hpl := pickN_lt x (n := 100) (by omega)
          obtain ⟨p, hp⟩ : ∃ p, pickN x 100 = p := ⟨_, rfl⟩
          rw [hp] at CP hpl
          have k0 := hat _ HT.out.o.bel
          obtain ⟨m, hcut⟩ := cut_some (HT.out.srt.drop k) ((now : Int) + (p : Int))
          have hml : k + m ≤ i := by have h1 := hcut.le; have h2 := HT.out.le; have h3 := HL.out; rw [List.length_drop] at h1; omega
          have hlen : ((L.drop k).take m).length = m := by have h1 := hcut.le; rw [List.length_take]; omega
          have C1 := Lib.hid (take_walk HT.out.o.p hcut (by have := HL.out; rw [List.length_drop]; omega))
          have HCUT := Lib.hid hcut
          have HLEN := Lib.hid hlen
          have x3 : (p : Int) < 100 := by omega
          have HPL := Lib.hid hpl
          clear hx hat hfx hp hcut hlen hpl
          go_wp2_with fail
          refine (CP.out _).mono ?_
          rintro e w4 ⟨rfl, rfl⟩
          clear CP k0
          go_wp2_with fail
          refine C1.out.mono ?_
          rintro e w5 ⟨vl, rfl, ol, q5, m5⟩
          have hO5 := HT.out.o.turnP q5 m5
          obtain ⟨Al, cl, rfl⟩ := own_shape ol HLEN.out
          obtain ⟨A9, c9, w6, r6, hO6⟩ := hO5.app (src_shape ol).1 HLEN.out (by omega)
          rw [take_more, drop_more] at hO6
          have E6 : Hid (O2 W w6 F a b G L (k + m) (now + p) A9 c9) := Lib.hid ⟨hO6, HT.out.srt, by have := HL.out; omega, fun t d ht hd => by
            by_cases htk : t < k
            · have := HT.out.lo t d htk hd; omega
            · have := HCUT.out.lo (t - k) d (by omega) (by rw [List.getElem?_drop, show k + (t - k) = t by omega]; exact hd)
              omega⟩
          have R6 := Lib.hid r6
          have OL := Lib.hid ol
          clear C1 ol q5 m5 hO5 hO6 r6
          go_wp2_with fail
          go_loopg [16] m (fun g s16 wx => ∃ t : Nat, t + g = m ∧ s16 = .int .i64 (t : Nat) ∧ Hid (w5 = wx))
          case atStart => exact ⟨0, by omega, rfl, Lib.hid rfl⟩
          case round =>
            obtain ⟨t, ht, rfl, HQ⟩ := hrel
            have HTT := Lib.hid ht
            clear ht
            obtain rfl := HQ.out
            cases gk with
            | zero =>
              obtain rfl : t = m := by have := HTT.out; omega
              go_wp2_with (first
                | (at_builtin; refine wpList_append_two rfl (.tmp 101) (.tmp 102) 26 26 rfl _ _ _ rfl rfl R6.out ?_)
                | fail)
              go_roundg g
              case rel => exact ⟨j + 1, k + t, now + p, A9, c9, F, by have := HJ.out; omega, rfl, by go_num, by go_num, by have := HNOW.out; have := HPL.out; omega, E6⟩
              case measure => omega
            | succ g3 =>
              have x4 : (t : Int) < m := by have := HTT.out; omega
              have htm : t < m := by omega
              obtain ⟨d, hd⟩ : ∃ d, ((L.drop k).take m)[t]? = some d := ⟨((L.drop k).take m)[t]'(by rw [HLEN.out]; exact htm), List.getElem?_eq_getElem _⟩
              have hle : ¬ (now : Int) + (p : Int) < d.1 := by
                have := HCUT.out.lo t d htm (by rw [List.getElem?_take_of_lt htm] at hd; exact hd)
                omega
              obtain ⟨g1, c1, e1, hx1, h1⟩ := OL.out.at hd
              rw [HLEN.out] at e1
              cases e1
              obtain ⟨y1, y2⟩ := h1 w5 (Below.refl _ _)
              clear hd hx1 h1 htm y2
              go_wp2_with fail
              go_roundg g3
              case rel => exact ⟨t + 1, by have := HTT.out; omega, by go_num, Lib.hid rfl⟩
              case measure => omega
    | succ g =>
      have x1 : (i : Int) < N := by have := HI.out; omega
      obtain ⟨x, hx⟩ : ∃ x, l[i]? = some x := ⟨l[i]'(by have := HN.out; have := HI.out; omega), List.getElem?_eq_getElem _⟩
      obtain ⟨b0, o, rfl, hat⟩ := HA.out.at hx
      have hfx := HF.out x (List.mem_of_getElem? hx)
      have CP := Lib.hid (fun w => pick_walk w x 1000 hfx (by omega) (by omega))
      obtain ⟨p, hp⟩ : ∃ p, pickN x 1000 = p := ⟨_, rfl⟩
      rw [hp] at CP
      obtain ⟨F, G, L, hO, hS, hL⟩ := HO.out
      have k0 := hat _ hO.bel
      obtain ⟨k, hcut⟩ := cut_some hS (p : Int)
      have C1 := Lib.hid (set_good hO.p (what := (i : Int)) (by omega) hcut (by rw [hL]; have := HI.out; omega))
      have S1 := Lib.hid (hS.ins (x := ((p : Int), (i : Int))) hcut)
      have hL1 := Lib.hid (show (insD L k ((p : Int), (i : Int))).length = i + 1 by rw [insD_length hcut.le, hL])
      have C2 := Lib.hid (fun (wx : World) (G' : Nat → Prop) (q : Qu wx G' b L) => set_good q (what := (i : Int)) (by omega) hcut (by rw [hL]; have := HI.out; omega))
      have HO1 := Lib.hid hO
      clear hx hat hfx hp hO hS hL hcut HO
      go_wp2_with fail
      refine (CP.out _).mono ?_
      rintro e w4 ⟨rfl, rfl⟩
      clear CP k0
      go_wp2_with fail
      refine C1.out.mono ?_
      rintro e w5 ⟨rfl, F5, q5, m5⟩
      have HO2 := Lib.hid (HO1.out.turnP q5 m5)
      have C3 := Lib.hid (C2.out _ _ HO2.out.q)
      clear C1 C2 q5 m5
      go_wp2_with fail
      refine C3.out.mono ?_
      rintro e w6 ⟨rfl, G6, q6, m6⟩
      have HO3 := Lib.hid (HO2.out.turnQ q6 m6)
      clear C3 q6 m6 HO1 HO2
      go_wp2_with fail
      go_roundg g
      case rel => exact ⟨i + 1, by have := HI.out; omega, by go_num, Lib.hid ⟨F5, G6, _, HO3.out, S1.out, hL1.out⟩⟩
      case measure => omega
end Go.Proofs.Ytnainhdhfjokmaa
