/-
  Layer 15 (sample): the threshold of a class and a level; whether a key is kept; how many of some keys aren't.
-/
import Derived.Test.YtidpldnkpacobaaSampleMay
import Derived.Test.YtidpldnkpacobaaOwnB
import Derived.Test.YtidpldnkpacobaaTexts
namespace Go.Proofs.Ytidpldnkpacobaa
open Go.ChangeShapes Go.WideShapes Go.ChangeAt Go.RowKit Go.Deep
set_option linter.unusedVariables false

theorem rds_ints {w : World} {A : Option Addr} {cap : Nat} {l : List UInt8} (h : RdS w A cap l) : RdInts .u8 w A (l.map fun u => (u.toNat : Int)) := by
  intro i hi
  rw [List.length_map] at hi
  obtain ⟨ad, rfl⟩ := h.some_of (by omega)
  exact ⟨ad, ((l[i]).toNat : Int), rfl, by rw [List.getElem?_map, List.getElem?_eq_getElem hi]; rfl, h.rd ad rfl i _ (List.getElem?_eq_getElem hi)⟩
theorem zs_byte (key : ByteArray) : Byte (zsOf key) := by
  intro n hn
  obtain ⟨u, _, rfl⟩ := List.mem_map.1 hn
  have := u.toNat_lt
  omega
theorem zs_len (key : ByteArray) : (zsOf key).length = key.size := by unfold zsOf; simp
/-- A key's bytes, laid anew, and what mix.Keep says of them. -/
theorem key_keep (key : ByteArray) (hs : key.size ≤ 1000000) (t : Int) (h0 : 0 ≤ t) (h1 : t ≤ 65536) (w : World) :
    ∃ cap w1, (convert 9 39 (.string key)).run Try.prog w = .ok (.slice (some ⟨w.heap.size, 0, none⟩) key.size cap) w1 ∧ Below w.heap.size w w1 ∧
      Calls Try.prog 14 #[.slice (some ⟨w.heap.size, 0, none⟩) key.size cap, .int .i64 t] w1 (fun e w' => e = .returned (.bool (keptAt t key)) ∧ w' = w1) := by
  obtain ⟨cap, w1, r, rd, b⟩ := str_row w key hs
  refine ⟨cap, w1, r, b, ?_⟩
  have C := mixKeep (some ⟨w.heap.size, 0, none⟩) (zsOf key) cap t w1 (by rw [zs_len]; omega) (rds_ints rd) (zs_byte key) (by omega) (by omega)
  rw [zs_len] at C
  exact C.mono fun e w' ⟨he, hw⟩ => ⟨he, hw.symm⟩

def errS : Value := .iface 31 (.int .i64 1)
def thrV (ls : List (List Int)) (c v : Int) : Value := if thereB ls c v = true then .tuple #[.int .i64 (thr ls c v), .nilIface] else .tuple #[.int .i64 0, errS]
def keepV (ls : List (List Int)) (c v : Int) (key : ByteArray) : Value := if thereB ls c v = true then .tuple #[.bool (keptAt (thr ls c v) key), .nilIface] else .tuple #[.bool false, errS]
def lostV (ls : List (List Int)) (c v : Int) (keys : List ByteArray) : Value := if thereB ls c v = true then .tuple #[.int .i64 (lostAt (thr ls c v) keys : Nat), .nilIface] else .tuple #[.int .i64 0, errS]
theorem thrV_no {ls : List (List Int)} {c v : Int} (h : thereB ls c v = false) : thrV ls c v = .tuple #[.int .i64 0, .iface 31 (.int .i64 1)] := by unfold thrV; rw [h]; rfl
theorem thrV_yes {ls : List (List Int)} {c v : Int} (h : thereB ls c v = true) : thrV ls c v = .tuple #[.int .i64 (thr ls c v), .nilIface] := by unfold thrV; rw [h]; rfl
theorem keepV_no {ls : List (List Int)} {c v : Int} {key : ByteArray} (h : thereB ls c v = false) : keepV ls c v key = .tuple #[.bool false, .iface 31 (.int .i64 1)] := by unfold keepV; rw [h]; rfl
theorem keepV_yes {ls : List (List Int)} {c v : Int} {key : ByteArray} (h : thereB ls c v = true) : keepV ls c v key = .tuple #[.bool (keptAt (thr ls c v) key), .nilIface] := by unfold keepV; rw [h]; rfl
theorem lostV_no {ls : List (List Int)} {c v : Int} {keys : List ByteArray} (h : thereB ls c v = false) : lostV ls c v keys = .tuple #[.int .i64 0, .iface 31 (.int .i64 1)] := by unfold lostV; rw [h]; rfl
theorem lostV_yes {ls : List (List Int)} {c v : Int} {keys : List ByteArray} (h : thereB ls c v = true) : lostV ls c v keys = .tuple #[.int .i64 (lostAt (thr ls c v) keys : Nat), .nilIface] := by unfold lostV; rw [h]; rfl
theorem lost_le (t : Int) (keys : List ByteArray) : lostAt t keys ≤ keys.length := List.countP_le_length
theorem lost_next {t : Int} {keys : List ByteArray} {i : Nat} {k : ByteArray} (h : keys[i]? = some k) : lostAt t (keys.take (i + 1)) = lostAt t (keys.take i) + (if keptAt t k = true then 0 else 1) := by
  obtain ⟨hl, e⟩ := List.getElem?_eq_some_iff.1 h
  unfold lostAt
  rw [List.take_succ_eq_append_getElem hl, List.countP_append, e]
  cases hk : keptAt t k <;> simp [hk]
section
variable {w w' : World} {E : Nat → Prop} {A : Option Addr} {cap : Nat} {ls : List (List Int)}
set_option maxRecDepth 100000 in
set_option maxHeartbeats 1000000 in
theorem thresh_walk (h : RdM w E A ls) (hl : ls.length ≤ 9223372036854775807) (hf : FitM ls) (c v : Int) :
    Calls Try.prog 13 #[.slice A ls.length cap, .int .i64 c, .int .i64 v] w (Tells (thrV ls c v) w) := by
  have HR := Lib.hid h
  have CM := Lib.hid (may_walk (cap := cap) h hl hf)
  obtain ⟨N, hN⟩ : ∃ N, ls.length = N := ⟨_, rfl⟩
  have HN := Lib.hid hN
  rw [hN] at hl CM ⊢
  cases hm : mayL ls with
  | false =>
    rw [hm] at CM
    have HV := Lib.hid (thrV_no (ls := ls) (c := c) (v := v) (by unfold thereB; rw [hm]; rfl))
    clear h hf hN hm
    go_enter Try.func13, Try.ntmps13
    go_wp2_with fail
    refine CM.out.mono ?_
    rintro e w1 ⟨rfl, b1⟩
    go_wp2_with fail
    go_ret2
    exact ⟨by rw [HV.out]; rfl, b1⟩
  | true =>
    rw [hm] at CM
    have HMY := Lib.hid hm
    by_cases h1 : 0 ≤ c
    case neg =>
      have HV := Lib.hid (thrV_no (ls := ls) (c := c) (v := v) (by unfold thereB; rw [decide_eq_false h1]; simp))
      have y1 : c < 0 := by omega
      clear h hf hN hm
      go_enter Try.func13, Try.ntmps13
      go_wp2_with fail
      refine CM.out.mono ?_
      rintro e w1 ⟨rfl, b1⟩
      go_wp2_with fail
      go_ret2
      exact ⟨by rw [HV.out]; rfl, b1⟩
    by_cases h2 : c < N
    case neg =>
      have HV := Lib.hid (thrV_no (ls := ls) (c := c) (v := v) (by unfold thereB; rw [HN.out, decide_eq_false h2]; simp))
      have y1 : ¬ c < 0 := by omega
      have y2 : (N : Int) ≤ c := by omega
      clear h hf hN hm
      go_enter Try.func13, Try.ntmps13
      go_wp2_with fail
      refine CM.out.mono ?_
      rintro e w1 ⟨rfl, b1⟩
      go_wp2_with fail
      go_ret2
      exact ⟨by rw [HV.out]; rfl, b1⟩
    by_cases h3 : 0 ≤ v
    case neg =>
      have HV := Lib.hid (thrV_no (ls := ls) (c := c) (v := v) (by unfold thereB; rw [decide_eq_false h3]; simp))
      have y1 : ¬ c < 0 := by omega
      have y2 : ¬ (N : Int) ≤ c := by omega
      have y3 : v < 0 := by omega
      clear h hf hN hm
      go_enter Try.func13, Try.ntmps13
      go_wp2_with fail
      refine CM.out.mono ?_
      rintro e w1 ⟨rfl, b1⟩
      go_wp2_with fail
      go_ret2
      exact ⟨by rw [HV.out]; rfl, b1⟩
    obtain ⟨k, rfl⟩ : ∃ k : Nat, c = k := ⟨c.toNat, by omega⟩
    obtain ⟨j, rfl⟩ : ∃ j : Nat, v = j := ⟨v.toNat, by omega⟩
    have hg := (may_parts hm).2.2.2.2
    have h8 := (may_parts hm).2.2.2.1
    obtain ⟨l, hli⟩ := at_some (l := ls) (i := k) (by omega)
    have hlev := (hg l (List.mem_of_getElem? hli)).1
    obtain ⟨b, o, B, cc, rfl, _, _, _⟩ := h.at hli
    have HI := Lib.hid hli
    have HL := Lib.hid hlev
    obtain ⟨n, hn⟩ : ∃ n, lev ls = n := ⟨_, rfl⟩
    have HLN := Lib.hid hn
    rw [hn] at h8
    have y1 : ¬ (k : Int) < 0 := by omega
    have y2 : ¬ (N : Int) ≤ k := by omega
    have y2' : (k : Int) < N := by omega
    have y3 : ¬ (j : Int) < 0 := by omega
    clear h hf hg hlev hli hN h1 h2 h3
    by_cases h4 : j < n
    case neg =>
      have HV := Lib.hid (thrV_no (ls := ls) (c := k) (v := j) (by unfold thereB; rw [HLN.out, decide_eq_false (show ¬ (j : Int) < n by omega)]; simp))
      have y4 : (n : Int) ≤ j := by omega
      clear hm hn
      go_enter Try.func13, Try.ntmps13
      go_wp2_with fail
      refine CM.out.mono ?_
      rintro e w1 ⟨rfl, b1⟩
      obtain ⟨b', o', B2, c2, e, _, c1, hq⟩ := (HR.out.still b1).at HI.out
      cases e
      rw [HL.out, HLN.out] at c1
      clear hq
      go_wp2_with fail
      go_ret2
      exact ⟨by rw [HV.out]; rfl, b1⟩
    have ht : thereB ls k j = true := by
      unfold thereB
      rw [hm, HN.out, HLN.out, decide_eq_true (show (0 : Int) ≤ k by omega), decide_eq_true y2', decide_eq_true (show (0 : Int) ≤ j by omega), decide_eq_true (show (j : Int) < n by omega)]
      rfl
    obtain ⟨l', t, hl', hj, _, _, et, _, _⟩ := there_row ht
    rw [Int.toNat_natCast, HI.out] at hl'
    cases hl'
    rw [Int.toNat_natCast] at hj
    have HJ := Lib.hid hj
    have HV := Lib.hid (thrV_yes ht)
    rw [et] at HV
    have y4 : ¬ (n : Int) ≤ j := by omega
    have y5 : (j : Int) < n := by omega
    clear hm hn ht et hj
    go_enter Try.func13, Try.ntmps13
    go_wp2_with fail
    refine CM.out.mono ?_
    rintro e w1 ⟨rfl, b1⟩
    obtain ⟨b', o', B2, c2, e, _, c1, hq⟩ := (HR.out.still b1).at HI.out
    cases e
    rw [HL.out, HLN.out] at c1
    obtain ⟨bq, oq, rfl, c3, _⟩ := hq.at HJ.out
    clear hq
    go_wp2_with fail
    go_ret2
    exact ⟨by rw [HV.out]; rfl, b1⟩
set_option maxRecDepth 100000 in
theorem keep_walk (h : RdM w E A ls) (hl : ls.length ≤ 9223372036854775807) (hf : FitM ls) (c v : Int) (key : ByteArray) (hk : key.size ≤ 1000000) :
    Calls Try.prog 9 #[.slice A ls.length cap, .int .i64 c, .int .i64 v, .string key] w (Tells (keepV ls c v key) w) := by
  have CT := Lib.hid (thresh_walk (cap := cap) h hl hf c v)
  generalize ls.length = N at *
  cases ht : thereB ls c v with
  | false =>
    rw [thrV_no ht] at CT
    have HV := Lib.hid (keepV_no (key := key) ht)
    clear h hf ht
    go_enter Try.func9, Try.ntmps9
    go_wp2_with fail
    refine CT.out.mono ?_
    rintro e w1 ⟨rfl, b1⟩
    go_wp2_with fail
    go_ret2
    exact ⟨by rw [HV.out]; rfl, b1⟩
  | true =>
    rw [thrV_yes ht] at CT
    have HV := Lib.hid (keepV_yes (key := key) ht)
    obtain ⟨_, t, _, _, _, _, et, t0, t1⟩ := there_row ht
    rw [et] at CT HV
    clear h hf ht et
    go_enter Try.func9, Try.ntmps9
    go_wp2_with fail
    refine CT.out.mono ?_
    rintro e w1 ⟨rfl, b1⟩
    obtain ⟨ck, w2, rk, b2, KC⟩ := key_keep key hk t t0 t1 w1
    have KC := Lib.hid KC
    go_wp2_with fail
    refine KC.out.mono ?_
    rintro e w3 ⟨rfl, rfl⟩
    go_wp2_with fail
    go_ret2
    exact ⟨by rw [HV.out]; rfl, b1.trans (b2.mono b1.size)⟩
set_option maxRecDepth 100000 in
theorem lost_walk (h : RdM w E A ls) (hl : ls.length ≤ 9223372036854775807) (hf : FitM ls) (c v : Int) {K : Option Addr} {ck : Nat} {keys : List ByteArray} (hK : RdX w K keys)
    (hkl : keys.length ≤ 9223372036854775807) (hks : ∀ key ∈ keys, key.size ≤ 1000000) :
    Calls Try.prog 11 #[.slice A ls.length cap, .int .i64 c, .int .i64 v, .slice K keys.length ck] w (Tells (lostV ls c v keys) w) := by
  have CT := Lib.hid (thresh_walk (cap := cap) h hl hf c v)
  generalize ls.length = N at *
  have HK := Lib.hid hK
  have HS := Lib.hid hks
  obtain ⟨M, hM⟩ : ∃ M, keys.length = M := ⟨_, rfl⟩
  have HM := Lib.hid hM
  rw [hM] at hkl ⊢
  clear hK hks hM
  cases ht : thereB ls c v with
  | false =>
    rw [thrV_no ht] at CT
    have HV := Lib.hid (lostV_no (keys := keys) ht)
    clear h hf ht
    go_enter Try.func11, Try.ntmps11
    go_wp2_with fail
    refine CT.out.mono ?_
    rintro e w1 ⟨rfl, b1⟩
    go_wp2_with fail
    go_ret2
    exact ⟨by rw [HV.out]; rfl, b1⟩
  | true =>
    rw [thrV_yes ht] at CT
    have HV := Lib.hid (lostV_yes (keys := keys) ht)
    obtain ⟨_, t, _, _, _, _, et, t0, t1⟩ := there_row ht
    rw [et] at CT HV
    clear h hf ht et
    go_enter Try.func11, Try.ntmps11
    go_wp2_with fail
    refine CT.out.mono ?_
    rintro e w1 ⟨rfl, b1⟩
    have B1 := Lib.hid b1
    clear b1 CT
    go_wp2_with fail
    go_loopg [12, 14, 27] M (fun g s12 s14 s27 wx => ∃ i m : Nat, i + g = M ∧ m ≤ i ∧ s12 = .int .i64 (m : Nat) ∧ s27 = .int .i64 (i : Nat) ∧ Hid (lostAt t (keys.take i) = m ∧ Below w.heap.size w wx))
    case atStart => exact ⟨0, 0, by omega, by omega, rfl, rfl, Lib.hid ⟨rfl, B1.out⟩⟩
    case round =>
      obtain ⟨i, m, hi, hm, rfl, rfl, HG⟩ := hrel
      cases gk with
      | zero =>
        obtain rfl : i = M := by omega
        have HE : Hid (lostAt t keys = m) := Lib.hid (by have := HG.out.1; rwa [List.take_of_length_le (by rw [HM.out]; exact Nat.le_refl _)] at this)
        go_wp2_with fail
        go_ret2
        exact ⟨by rw [HV.out, HE.out]; rfl, HG.out.2⟩
      | succ g =>
        have x1 : (i : Int) < M := by omega
        obtain ⟨key, hki⟩ := at_some (l := keys) (i := i) (by rw [HM.out]; omega)
        obtain ⟨b, o, rfl, hat⟩ := HK.out.at hki
        have c1 := hat wr (HG.out.2)
        obtain ⟨cy, w2, rk, b2, KC⟩ := key_keep key (HS.out key (List.mem_of_getElem? hki)) t t0 t1 wr
        have KC := Lib.hid KC
        have HN := lost_next (t := t) hki
        have B2 := Lib.hid (HG.out.2.trans (b2.mono HG.out.2.size))
        clear hat hki b2
        cases hk : keptAt t key with
        | true =>
          rw [hk] at KC HN
          have HN2 : Hid (lostAt t (keys.take (i + 1)) = m) := Lib.hid (by rw [HN, HG.out.1]; simp)
          clear hk HN
          go_wp2_with fail
          refine KC.out.mono ?_
          rintro e w3 ⟨rfl, rfl⟩
          go_wp2_with fail
          go_roundg g
          case rel => exact ⟨i + 1, m, by omega, by omega, by go_num, by go_num, Lib.hid ⟨HN2.out, B2.out⟩⟩
          case measure => omega
        | false =>
          rw [hk] at KC HN
          have HN2 : Hid (lostAt t (keys.take (i + 1)) = m + 1) := Lib.hid (by rw [HN, HG.out.1]; simp)
          clear hk HN
          go_wp2_with fail
          refine KC.out.mono ?_
          rintro e w3 ⟨rfl, rfl⟩
          go_wp2_with fail
          go_roundg g
          case rel => exact ⟨i + 1, m + 1, by omega, by omega, by go_num, by go_num, Lib.hid ⟨HN2.out, B2.out⟩⟩
          case measure => omega
end
end Go.Proofs.Ytidpldnkpacobaa
