/-
  Layer 9 (journal): all parts are taken; Open.
-/
import Derived.Test.YtgohgmihoggcpaaJournalTake
namespace Go.Proofs.Ytgohgmihoggcpaa
open Go.ChangeShapes Go.WideShapes Go.ChangeAt Go.RowKit
set_option linter.unusedVariables false

/-- Parts that hold whole records, torn bytes behind them, and leave no gap. -/
structure Segs (G : List Sg) : Prop where
  good : ∀ g ∈ G, g.Good
  chain : ∃ n, Chain n G
  lo : ∀ g ∈ G, 0 ≤ g.n ∧ g.n ≤ 4611686018427387904
  len : G.length ≤ 1000
  rl : (recs G).length ≤ 100000
theorem chain_at {g : Sg} {Y : List Sg} : ∀ (X : List Sg) (n : Int), Chain n (X ++ g :: Y) → g.n = n + ((recs X).length : Nat)
  | [], n, h => by
    have := h.1
    rw [recs_nil]; simp; exact this
  | x :: X, n, h => by
    have := chain_at X _ h.2
    rw [recs_cons, List.length_append]
    omega
theorem chain_first {G : List Sg} {g : Sg} {n : Int} (h : Chain n (g :: G)) : g.n = n := h.1
theorem seg_next {G X Y : List Sg} {g : Sg} (h : Segs G) (hG : X ++ g :: Y = G) (hX : X ≠ []) : jNext (X.map (·.n)) (recs X) = g.n := by
  obtain ⟨n, hc⟩ := h.chain
  rw [← hG] at hc
  have h1 := chain_at X n hc
  cases X with
  | nil => exact absurd rfl hX
  | cons x X =>
    have h2 : x.n = n := hc.1
    unfold jNext jFirst
    simp only [List.map_cons, List.headD_cons]
    rw [h1, h2]
theorem seg_fits {G X Y : List Sg} (h : Segs G) (hG : X ++ Y = G) : Fits (X.map (·.n)) (recs X) where
  lo n hn := by
    obtain ⟨g, hg, rfl⟩ := List.mem_map.1 hn
    exact h.lo g (by rw [← hG]; simp [hg])
  pl := by have := h.len; rw [← hG, List.length_append] at this; rw [List.length_map]; omega
  rl := by have := h.rl; rw [← hG, recs_app, List.length_append] at this; omega
section
variable {X Y : List Sg} {g : Sg}
/-- Half way: the parts ahead have been cut. -/
def half (X Y : List Sg) : List Pt := X.map Sg.cut ++ Y.map Sg.pt
theorem half_cons : half X (g :: Y) = X.map Sg.cut ++ g.pt :: Y.map Sg.pt := rfl
theorem half_next : half (X ++ [g]) Y = X.map Sg.cut ++ g.cut :: Y.map Sg.pt := by unfold half; rw [List.map_append, List.append_assoc]; rfl
theorem half_all (X : List Sg) : half X [] = X.map Sg.cut := by unfold half; simp
theorem half_read (h : Rises (half X (g :: Y))) : opRead false (half X (g :: Y)) g.n = (0, flat g.rs ++ g.t) := by
  rw [half_cons] at h ⊢
  have hf := find_has (n := g.n) (q := g.pt) (y := Y.map Sg.pt) rfl (fun p hp => h.mid.1 p hp)
  unfold opRead
  rw [if_pos (miss_some hf), bytes_some hf]
  rfl
theorem half_cut (h : Rises (half X (g :: Y))) : opCut false (half X (g :: Y)) g.n ((flat g.rs).length : Nat) = (0, half (X ++ [g]) Y) := by
  rw [half_next, half_cons] at *
  have hx := fun p hp => h.mid.1 p hp
  have hf := find_has (n := g.n) (q := g.pt) (y := Y.map Sg.pt) rfl hx
  unfold opCut
  rw [if_pos (miss_some hf), len_some hf, if_neg (by
    have : (g.pt).b.length = (flat g.rs).length + g.t.length := by show (flat g.rs ++ g.t).length = _; rw [List.length_append]
    omega), upd_has (n := g.n) (q := g.pt) rfl hx]
  have e : cutP g.n ((flat g.rs).length : Int).toNat (some g.pt) = g.cut := by
    unfold cutP Sg.cut Sg.pt
    simp only [Int.toNat_natCast, List.take_left]
  rw [e]
theorem half_len : (half X Y).length = X.length + Y.length := by unfold half; simp
end
section
variable {W w : World} {ad aj rm : Nat} {many : Int} {y : Value}
set_option maxHeartbeats 1000000 in
set_option maxRecDepth 100000 in
theorem takeAllJ {G : List Sg} (h : Jy W w ad aj rm false (G.map Sg.pt) many [] [] y (G.map (·.n))) (hi : Inv rm (G.map Sg.pt)) (hs : Segs G) :
    Calls Try.prog 14 #[.pointer (some ⟨aj, 0, none⟩), y] w fun e w' => e = .returned .nilIface ∧ Jn W w' ad aj rm false (G.map Sg.cut) many (G.map (·.n)) (recs G) := by
  obtain ⟨A, cap, rfl, hA⟩ : ∃ A cap, y = .slice A (G.map (·.n)).length cap ∧ ∀ (i : Nat) (n : Int), (G.map (·.n))[i]? = some n → ∃ g, A = some ⟨g, 0, none⟩ := by
    obtain ⟨_, _, _, _, hy, _⟩ := h
    exact oi_shape hy
  have H := Lib.hid h
  have HI := Lib.hid hi
  have HS := Lib.hid hs
  have HA := Lib.hid hA
  have hlen := hs.len
  have HM : Hid ((G.map (·.n)).length = G.length) := Lib.hid (by simp)
  rw [HM.out] at H ⊢
  clear h hi hs hA
  go_enter Try.func14, Try.ntmps14
  go_wp2_with fail
  go_loopg [10] (G.length) (fun k s10 wx => ∃ (X Y : List Sg) (K : Nat), Y.length = k ∧ Hid (X ++ Y = G) ∧ Hid (X.length = K) ∧ s10 = .int .i64 (K : Nat) ∧ Hid (Inv rm (half X Y)) ∧ Hid (Jy W wx ad aj rm false (half X Y) many (X.map (·.n)) (recs X) (.slice A G.length cap) (G.map (·.n))))
  case atStart => exact ⟨[], G, 0, rfl, Lib.hid rfl, Lib.hid rfl, rfl, HI, H⟩
  case round =>
    clear H HI
    obtain ⟨X, Y, K, hY, HX, HK, rfl, HI, HJ⟩ := hrel
    cases Y with
    | nil =>
      have hXG : X = G := by have := HX.out; simpa using this
      have x1 : ¬ K < G.length := by rw [← HK.out, hXG]; omega
      have FIN : Hid (Jn W wr ad aj rm false (G.map Sg.cut) many (G.map (·.n)) (recs G)) := Lib.hid (by
        have := HJ.out.jn
        rw [half_all, hXG] at this
        exact this)
      clear HX HI HJ hXG HK
      go_wp2_with fail
      go_ret
      exact ⟨rfl, FIN.out⟩
    | cons g Y =>
      obtain ⟨k, rfl⟩ : ∃ k, gk = k + 1 := ⟨Y.length, by simpa using hY.symm⟩
      have hlt : K < G.length := by rw [← HK.out, ← HX.out, List.length_append, List.length_cons]; omega
      have x1 : decide ((K : Int) < (G.length : Int)) = true := decide_eq_true (by omega)
      have hgi : (G.map (·.n))[K]? = some g.n := by rw [← HK.out, ← HX.out]; simp
      obtain ⟨ga, rfl⟩ := HA.out _ _ hgi
      have hgG : g ∈ G := by rw [← HX.out]; simp
      have hlo := HS.out.lo g hgG
      have hc : wr.cell? ⟨ga, K, none⟩ = some (.int .i64 g.n) := by
        obtain ⟨_, _, _, _, hy, _⟩ := HJ.out
        exact oi_cell hy hgi
      have hgood := HS.out.good g hgG
      have hmem : g.pt ∈ half X (g :: Y) := by rw [half_cons]; simp
      have hfits := used_mem hmem
      have hi := HI.out
      have hf1 := hi.fits
      have hf2 := hi.room
      have hbl : (flat g.rs ++ g.t).length ≤ 65536 := by
        have : g.pt.b = flat g.rs ++ g.t := rfl
        rw [this] at hfits; omega
      have hF : Hid (Fits (X.map (·.n)) (recs X)) := Lib.hid (seg_fits HS.out HX.out)
      have hrl : (recs X).length + g.rs.length ≤ 200000 := by
        have := HS.out.rl
        rw [← HX.out, recs_app, recs_cons, List.length_append, List.length_append] at this
        omega
      have hXl : (half X (g :: Y)).length ≤ 1000 := by rw [half_len]; have := congrArg List.length HX.out; rw [List.length_append] at this; omega
      have CT := Lib.hid (fun (wx : World) (hb : Below wr.heap.size wr wx) => takeJ (HJ.out.still hb) hi hXl hlo.1 hlo.2 (half_read hi.rise) hgood.good hgood.torn (half_cut hi.rise) hF.out.pl hrl hbl)
      have HI2 : Hid (Inv rm (half (X ++ [g]) Y)) := Lib.hid (by have := cut_inv (dn := false) (n := g.n) (m := ((flat g.rs).length : Nat)) hi; rw [half_cut hi.rise] at this; exact this)
      have HX2 : Hid ((X ++ [g]) ++ Y = G) := Lib.hid (by rw [← HX.out]; simp)
      have HL2 : Hid ((X ++ [g]).length = K + 1) := Lib.hid (by rw [← HK.out]; simp)
      have HP2 : Hid ((X ++ [g]).map (·.n) = X.map (·.n) ++ [g.n]) := Lib.hid (by simp)
      have HR2 : Hid (recs (X ++ [g]) = recs X ++ g.rs) := Lib.hid (by rw [recs_app, recs_cons, recs_nil, List.append_nil])
      rcases Nat.eq_zero_or_pos K with rfl | h0
      · have x2 : 0 < G.length := hlt
        clear x1
        have C0 := Lib.hid (CT.out wr (Below.refl _ _))
        clear hfits hmem hi hf1 hf2 hbl hrl hXl hgood hgi hgG CT HX HI hF hlt HK
        go_wp2_with fail
        refine C0.out.mono ?_
        rintro e w2 ⟨rfl, J2⟩
        have J3 : Hid (Jy W w2 ad aj rm false (half (X ++ [g]) Y) many ((X ++ [g]).map (·.n)) (recs (X ++ [g])) (.slice (some ⟨ga, 0, none⟩) G.length cap) (G.map (·.n))) := Lib.hid (by rw [HP2.out, HR2.out]; exact J2)
        clear C0 J2
        go_wp2_with fail
        go_roundg k
        case rel => exact ⟨X ++ [g], Y, 1, by simpa using hY, HX2, HL2, rfl, HI2, J3⟩
        case measure => simp at hY; omega
      · have hX0 : X ≠ [] := fun e => by have := HK.out; subst e; simp at this; omega
        have hnx := seg_next HS.out HX.out hX0
        have CN : Hid (Calls Try.prog 11 #[.pointer (some ⟨aj, 0, none⟩)] wr fun e w' => e = .returned (.int .i64 g.n) ∧ ∃ m, w' = wr.drewN m) := Lib.hid (by
          obtain ⟨_, vp, vr, gj, _⟩ := HJ.out
          have := nextJ gj hF.out
          rw [hnx] at this
          exact this)
        have C0 := Lib.hid (fun m : Nat => CT.out (wr.drewN m) (below_drewN wr m))
        have x2 : (0 : Int) < (K : Int) := by omega
        clear hfits hmem hi hf1 hf2 hbl hrl hXl hgood hgi hgG CT HX HI hF hX0 hnx HK
        go_wp2_with fail
        refine CN.out.mono ?_
        rintro e w1 ⟨rfl, m, rfl⟩
        go_wp2_with fail
        refine (C0.out m).mono ?_
        rintro e w2 ⟨rfl, J2⟩
        have J3 : Hid (Jy W w2 ad aj rm false (half (X ++ [g]) Y) many ((X ++ [g]).map (·.n)) (recs (X ++ [g])) (.slice (some ⟨ga, 0, none⟩) G.length cap) (G.map (·.n))) := Lib.hid (by rw [HP2.out, HR2.out]; exact J2)
        clear C0 J2 CN
        go_wp2_with fail
        go_roundg k
        case rel => exact ⟨X ++ [g], Y, K + 1, by simpa using hY, HX2, HL2, by go_num, HI2, J3⟩
        case measure => simp at hY; omega
theorem openNil (w : World) (n : Int) :
    Calls Try.prog 6 #[.pointer none, .int .i64 n] w fun e w' => e = .returned (.tuple #[.pointer none, errV 1]) ∧ w' = w := by
  go_enter Try.func6, Try.ntmps6
  go_wp2
  go_ret2
  exact ⟨rfl, rfl⟩
theorem openBad (w : World) (a : Nat) (n : Int) (h : n < 1 ∨ 100 < n) :
    Calls Try.prog 6 #[.pointer (some ⟨a, 0, none⟩), .int .i64 n] w fun e w' => e = .returned (.tuple #[.pointer none, errV 1]) ∧ w' = w := by
  rcases h with h | h
  · go_enter Try.func6, Try.ntmps6
    go_wp2
    go_ret2
    exact ⟨rfl, rfl⟩
  · have h1 : ¬ n < 1 := by omega
    go_enter Try.func6, Try.ntmps6
    go_wp2
    go_ret2
    exact ⟨rfl, rfl⟩
theorem Own8.parts {dn : Bool} {L : List Pt} (h : Own8 W w ad rm dn L) (hi : Inv rm L) (hl : L.length ≤ 1000) :
    Calls Try.prog 15 #[.pointer (some ⟨ad, 0, none⟩)] w fun e w' => ∃ v, e = .returned v ∧ OI w' w.heap.size v (nums L) ∧ Below w.heap.size w w' := by
  obtain ⟨F, h1, _⟩ := h
  exact partsD w F ad rm dn L h1 hi.rise hl
theorem nums_pt (G : List Sg) : nums (G.map Sg.pt) = G.map (·.n) := by unfold nums; rw [List.map_map]; rfl
set_option maxRecDepth 100000 in
theorem openJ {dn : Bool} {G : List Sg} (h : Own8 W w ad rm dn (G.map Sg.pt)) (hi : Inv rm (G.map Sg.pt)) (hs : Segs G) (hm : 1 ≤ many ∧ many ≤ 100) :
    Calls Try.prog 6 #[.pointer (some ⟨ad, 0, none⟩), .int .i64 many] w fun e w' => ∃ aj, e = .returned (.tuple #[.pointer (some ⟨aj, 0, none⟩), .nilIface]) ∧ Jn W w' ad aj rm false (G.map Sg.cut) many (G.map (·.n)) (recs G) := by
  have CU := Lib.hid h.up
  have HI := Lib.hid hi
  have HS := Lib.hid hs
  have h1 : ¬ many < 1 := by omega
  have h2 : ¬ 100 < many := by omega
  have hl : Hid ((G.map Sg.pt).length ≤ 1000) := Lib.hid (by rw [List.length_map]; exact hs.len)
  clear h hi hs hm
  go_enter Try.func6, Try.ntmps6
  go_wp2_with fail
  refine CU.out.mono ?_
  rintro e w1 ⟨rfl, o1⟩
  have o2 := o1.still ((Below.refl _ _).alloc (Nat.le_refl _) (.cells (jrCells ad many (.slice none 0 0) (.slice none 0 0)) 47))
  have g2 : JrG (w1.alloc (.cells (jrCells ad many (.slice none 0 0) (.slice none 0 0)) 47)) W.heap.size ad w1.heap.size many (.slice none 0 0) (.slice none 0 0) [] [] :=
    ⟨heap_alloc_new w1 _, by obtain ⟨F, _, _, hb⟩ := o1; exact hb.size, World.ownsRow_nil _ _ _ _, World.ownsRow_nil _ _ _ _⟩
  have CP := Lib.hid (o2.parts HI.out hl.out)
  have K := Lib.hid (And.intro o2 g2)
  unfold jrCells at CP K
  clear o1 o2 g2 CU
  go_wp2_with fail
  refine CP.out.mono ?_
  rintro e w3 ⟨y, rfl, hy, b3⟩
  rw [nums_pt] at hy
  have J3 : Jy W w3 ad w1.heap.size rm false (G.map Sg.pt) many [] [] y (G.map (·.n)) := ⟨K.out.1.still b3, _, _, K.out.2.still b3, owns_mono hy (Nat.zero_le _), fun x _ e => by cases e⟩
  have CT := Lib.hid (takeAllJ J3 HI.out HS.out)
  clear CP K hy b3 J3
  go_wp2_with fail
  refine CT.out.mono ?_
  rintro e w4 ⟨rfl, J4⟩
  have J4 := Lib.hid J4
  clear CT
  go_wp2
  go_ret2
  exact ⟨_, rfl, J4.out⟩
end
end Go.Proofs.Ytgohgmihoggcpaa
