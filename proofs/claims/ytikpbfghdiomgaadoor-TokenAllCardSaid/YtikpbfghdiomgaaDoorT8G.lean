/-
  The law TokenCuts over this seat's translation, from the contracts of Scan. Conditions: those that each theorem states.
-/
import Derived.Test.YtikpbfghdiomgaaDoorT8E
import Derived.Test.YtikpbfghdiomgaaDoorT8F
import Derived.Deep.RegionHeld3
namespace Go.Proofs.YtikpbfghdiomgaaDoor
open Go.RowKit Go.Lib Tk
attribute [local go_sem] Oper.semAt_some

theorem word_small {l : Bs} (h : (word l).1 = 0) : (word l).2.2.2.1 ≤ 9223372036854775807 ∧ (word l).2.2.1.length ≤ 16 := by
  match l with
  | [] => simp [word] at h
  | c :: l =>
    by_cases h1 : isL c = true
    · have hw := word_L (l := l) h1
      by_cases h2 : 16 < ((c :: l).takeWhile isN).length
      · rw [if_pos h2] at hw
        rw [hw] at h
        exact absurd h (by decide)
      · rw [if_neg h2] at hw
        rw [hw]
        exact ⟨Nat.zero_le _, by simp only; omega⟩
    · have h1f : isL c = false := by simpa using h1
      by_cases h2 : c.toNat = 39
      · match l with
        | [] => rw [word_Q0 h2] at h; exact absurd h (by decide)
        | d :: l =>
          have hw := word_Q (l := l) (d := d) h2
          by_cases h3 : isL d = true
          · rw [if_pos h3] at hw
            by_cases h4 : 16 < ((d :: l).takeWhile isN).length
            · rw [if_pos h4] at hw
              rw [hw] at h
              exact absurd h (by decide)
            · rw [if_neg h4] at hw
              rw [hw]
              exact ⟨Nat.zero_le _, by simp only; omega⟩
          · rw [if_neg h3] at hw
            rw [hw] at h
            exact absurd h (by decide)
      · by_cases h3 : isD c = true
        · have hw := word_D (l := l) h1f h2 h3
          by_cases h4 : c.toNat = 48 ∧ 1 < ((c :: l).takeWhile isD).length
          · rw [if_pos h4] at hw
            rw [hw] at h
            exact absurd h (by decide)
          · rw [if_neg h4] at hw
            by_cases h5 : 9223372036854775807 < numV ((c :: l).takeWhile isD)
            · rw [if_pos h5] at hw
              rw [hw] at h
              exact absurd h (by decide)
            · rw [if_neg h5] at hw
              rw [hw]
              exact ⟨by simp only; omega, Nat.zero_le _⟩
        · have h3f : isD c = false := by simpa using h3
          have hw := word_M (l := l) h1f h2 h3f
          by_cases h4 : markLen (c :: l) = 0
          · rw [if_pos h4] at hw
            rw [hw] at h
            exact absurd h (by decide)
          · rw [if_neg h4] at hw
            rw [hw]
            refine ⟨Nat.zero_le _, ?_⟩
            simp only
            rw [List.length_take]
            have : markLen (c :: l) ≤ 2 := by
              match l with
              | [] => show (if _ then 1 else 0) ≤ 2; split <;> omega
              | d :: l => show (if _ then 2 else if _ then 1 else 0) ≤ 2; split <;> (try split) <;> omega
            omega
theorem wok_small {w : Tk.W} (h : WOk w) : w.n ≤ 9223372036854775807 ∧ w.s.length ≤ 16 := by
  obtain ⟨l, h1, h2, h3, h4⟩ := h
  rw [h3, h4]
  exact word_small h1
theorem bs_take (s : ByteArray) (k : Nat) : bs (s.extract 0 k) = (bs s).take k := by
  rw [ext8]
  show (((bs s).drop 0).take (k - 0)).toArray.toList = _
  simp
/-- The words of a text without an error. -/
theorem scan_words {s : ByteArray} {L : List Tk.W} {n : Nat} (h : Tk.scan (bs s) = (L, n, 0)) : s.size ≤ 16384 ∧ n = 0 ∧ lex ((bs s).length + 1) 0 (bs s) = (L, none) ∧ ∃ us, L = us ++ [⟨4, [], 0, s.size⟩] ∧ (∀ u ∈ us, WOk u ∧ u.p + (Tk.txt u).length ≤ s.size) := by
  obtain ⟨h1, h2, h3⟩ := scan_ok (l := bs s) (by rw [h])
  rw [h] at h2 h3
  rw [bs_len] at h1
  obtain ⟨us, e, h4, _⟩ := lex_shape _ 0 (bs s) L (Nat.lt_succ_self _) h3
  refine ⟨h1, h2, h3, us, by rw [e, bs_len, Nat.zero_add], fun u hu => ⟨(h4 u hu).1, ?_⟩⟩
  have := (h4 u hu).2.2
  rw [bs_len, Nat.zero_add] at this
  exact this
/-- A text cut off behind a word. -/
theorem cut_scan {s : ByteArray} {us : List Tk.W} {e : Tk.W} (h1 : s.size ≤ 16384) (h : lex ((bs s).length + 1) 0 (bs s) = (us ++ [e], none)) {n : Nat} {t : Tk.W} (hn : us[n]? = some t) :
    t.p + (Tk.txt t).length ≤ s.size ∧ Tk.scan (bs (s.extract 0 (t.p + (Tk.txt t).length))) = (us.take (n + 1) ++ [⟨4, [], 0, t.p + (Tk.txt t).length⟩], 0, 0) := by
  obtain ⟨_, h2, h3⟩ := lex_cut _ 0 (bs s) us e (Nat.lt_succ_self _) h n t hn
  rw [Nat.sub_zero, bs_len] at h2
  rw [Nat.sub_zero] at h3
  refine ⟨h2, ?_⟩
  rw [bs_take]
  refine scan_of ?_ (h3 _ (Nat.lt_succ_self _))
  rw [List.length_take, bs_len]
  omega

set_option maxHeartbeats 16000000 in
set_option maxRecDepth 100000 in
theorem cuts_c (C : TkC) (KA : AwakeC) (s : ByteArray) (hmax : s.size ≤ 9223372036854775807) (k : Nat) (hk : k < 256) (w : World) (he : Env8 w) :
    Calls Tryd.prog 6 #[.string s, .int .u8 (k : Int)] w fun e w' => e = .returned (.bool true) ∧ Below w.heap.size w w' := by
  have mixed : Tryd.prog.follows .mixedOrders = true := by kernel_rfl
  have HE := Lib.hid fun w1 (hb : Below w.heap.size w w1) => he.keep hb
  have KA := Lib.hid fun w1 (hb : Below w.heap.size w w1) => KA w1 (HE.out w1 hb)
  clear he
  by_cases hbig : s.size ≤ 6000
  · have d1 : decide ((s.size : Int) > 6000) = false := decide_eq_false (by omega)
    have d2 : decide (6000 < s.size) = false := decide_eq_false (by omega)
    have KS := Lib.hid fun w1 (hb : Below w.heap.size w w1) => C.scan s hmax w1 (HE.out w1 hb)
    unfold ScP at KS
    obtain ⟨L, n, er, hsc⟩ : ∃ L n er, Tk.scan (bs s) = (L, n, er) := ⟨_, _, _, rfl⟩
    have HL := Lib.hid (show L.length ≤ 16385 from by have := scan_len (bs s); rw [hsc] at this; exact this)
    rw [hsc] at KS
    obtain ⟨z, hz⟩ : ∃ z : Int, (n : Int) = z := ⟨_, rfl⟩
    simp only [hz] at KS
    clear hz
    by_cases her : er = 0
    · subst her
      obtain ⟨h1, _, h3, us, hL, hus⟩ := scan_words hsc
      clear hsc
      obtain ⟨m, hm⟩ : ∃ m, L.length = m := ⟨_, rfl⟩
      have hmu : us.length + 1 = m := by rw [← hm, hL, List.length_append]; rfl
      by_cases h2 : m < 2
      · have e2 : decide ((m : Int) < 2) = true := decide_eq_true (by omega)
        have hm2 : (m : Int) < 2 := by omega
        have HM := Lib.hid hm
        clear hmu h2 hL hus h1 h3 hm C
        go_enter Tryd.func6, Tryd.ntmps6
        go_wp2_with fail
        refine (KA.out _ (Below.refl _ _)).mono ?_
        rintro e w1 ⟨rfl, hb1⟩
        have HB1 := Lib.hid hb1
        clear hb1
        go_wp2_with fail
        refine (KS.out _ HB1.out).mono ?_
        rintro e w2 ⟨⟨v, rfl, hr⟩, hb2⟩
        obtain ⟨p, c, rfl, hf⟩ := rowW_form hr
        simp only [HM.out]
        have HB2 := Lib.hid (belowT8 HB1.out hb2)
        clear hr hf hb2
        go_wp2
        go_ret
        exact ⟨rfl, HB2.out⟩
      · have e2 : decide ((m : Int) < 2) = false := decide_eq_false (by omega)
        have hm2 : ¬ (m : Int) < 2 := by omega
        obtain ⟨M, hM⟩ : ∃ M, us.length = M := ⟨_, rfl⟩
        obtain ⟨j, hj⟩ : ∃ j, k % M = j := ⟨_, rfl⟩
        have hMm : M + 1 = m := by omega
        have hmx : m ≤ 16385 := by have := HL.out; omega
        have hjM : j < M := by rw [← hj]; exact Nat.mod_lt _ (by omega)
        obtain ⟨t, ht⟩ : ∃ t, us[j]? = some t := ⟨_, List.getElem?_eq_getElem (by omega)⟩
        obtain ⟨htok, _⟩ := hus t (List.mem_of_getElem? ht)
        obtain ⟨hcut, hsc2⟩ := cut_scan h1 (by rw [← hL]; exact h3) ht
        have KS2 := Lib.hid fun w1 (hb : Below w.heap.size w w1) => C.scan (s.extract 0 (t.p + (Tk.txt t).length)) (by rw [ByteArray.size_extract]; omega) w1 (HE.out w1 hb)
        unfold ScP at KS2
        rw [hsc2] at KS2
        have HLt := Lib.hid (show L[j]? = some t from by rw [hL, List.getElem?_append_left (by omega)]; exact ht)
        obtain ⟨L2, hL2⟩ : ∃ L2, us.take (j + 1) ++ [⟨4, [], 0, t.p + (Tk.txt t).length⟩] = L2 := ⟨_, rfl⟩
        have hl2 : L2.length = j + 2 := by rw [← hL2, List.length_append, List.length_take, List.length_singleton]; omega
        have HE2 := Lib.hid (show L2[j + 1]? = some (⟨4, [], 0, t.p + (Tk.txt t).length⟩ : Tk.W) from by
          rw [← hL2, List.getElem?_append_right (by rw [List.length_take]; omega), List.length_take, show j + 1 - min (j + 1) us.length = 0 from by omega]
          rfl)
        have HI2 := Lib.hid (show ∀ i, i ≤ j → ∃ u, L2[i]? = some u ∧ L[i]? = some u from fun i hi => by
          obtain ⟨u, hu⟩ : ∃ u, us[i]? = some u := ⟨_, List.getElem?_eq_getElem (by omega)⟩
          refine ⟨u, ?_, ?_⟩
          · rw [← hL2, List.getElem?_append_left (by rw [List.length_take]; omega), List.getElem?_take_of_lt (by omega)]
            exact hu
          · rw [hL, List.getElem?_append_left (by omega)]
            exact hu)
        rw [hL2] at KS2
        have KT := Lib.hid (text8_c t (wok_small htok).1 (by have := (wok_small htok).2; omega))
        obtain ⟨tx, htx⟩ : ∃ tx : ByteArray, (⟨(Tk.txt t).toArray⟩ : ByteArray) = tx := ⟨_, rfl⟩
        obtain ⟨tz, htz'⟩ : ∃ tz : Nat, (Tk.txt t).length = tz := ⟨_, rfl⟩
        have htz : tx.size = tz := by rw [← htx, ← htz']; simp [ByteArray.size]
        rw [htx] at KT
        rw [htz'] at KS2 HE2 hcut
        obtain ⟨q, hq⟩ : ∃ q, t.p + tz = q := ⟨_, rfl⟩
        rw [hq] at KS2 HE2 hcut
        have hwc : IntKind.i64.wrap ((t.p : Int) + (tz : Int)) = (q : Int) := by rw [IntKind.wrap_i64] <;> omega
        have hw1 : IntKind.i64.wrap ((m : Int) - 1) = (M : Int) := by rw [IntKind.wrap_i64] <;> omega
        have hwk : IntKind.i64.wrap (k : Int) = (k : Int) := by rw [IntKind.wrap_i64] <;> omega
        have hrem : Int.tmod (k : Int) (M : Int) = (j : Int) := by rw [Int.tmod_eq_emod_of_nonneg (by omega)]; omega
        have hM0 : ((M : Int) == 0) = false := beq_eq_false_iff_ne.2 (by omega)
        have hM1 : ¬ (M : Int) = 0 := by omega
        have hM2 : ¬ M = 0 := by omega
        have hj0 : (0 : Int) ≤ (j : Int) := by omega
        have hjm : (j : Int) < (m : Int) := by omega
        have hjm' : j < m := by omega
        have hwj : IntKind.i64.wrap (j : Int) = (j : Int) := by rw [IntKind.wrap_i64] <;> omega
        have hwj1 : IntKind.i64.wrap ((j : Int) + 1) = (j : Int) + 1 := by rw [IntKind.wrap_i64] <;> omega
        have hwj2 : IntKind.i64.wrap ((j : Int) + 2) = (j : Int) + 2 := by rw [IntKind.wrap_i64] <;> omega
        have hqz : (q : Int) ≤ (s.size : Int) := by omega
        have hq0 : (0 : Int) ≤ (q : Int) := by omega
        have HM := Lib.hid hm
        have HM2 := Lib.hid hl2
        have HMM := Lib.hid hMm
        have HJM := Lib.hid hjM
        clear hus hL h1 h3 hm C h2 hmu hM hj ht htok hsc2 hL2 hl2 htx htz' hq hMm hjM hmx
        go_enter Tryd.func6, Tryd.ntmps6
        go_wp2_with fail
        refine (KA.out _ (Below.refl _ _)).mono ?_
        rintro e w1 ⟨rfl, hb1⟩
        have HB1 := Lib.hid hb1
        clear hb1
        go_wp2_with fail
        refine (KS.out _ HB1.out).mono ?_
        rintro e w2 ⟨⟨v, rfl, hr⟩, hb2⟩
        obtain ⟨p, c, rfl, hf⟩ := rowW_form hr
        simp only [HM.out]
        have HF := Lib.hid hf
        have HB2 := Lib.hid (belowT8 HB1.out hb2)
        obtain ⟨g, off, rfl, a0, a1, a2, a3⟩ := hf.in HLt.out
        clear hr hf hb2
        go_wp2_with fail
        go_region_held3 (fun w' => w'.cell? ⟨g, off + j * 4, none⟩ = some (.int .i64 (t.kind : Int)) ∧ w'.cell? ⟨g, off + j * 4 + 1, none⟩ = some (.string ⟨t.s.toArray⟩) ∧ w'.cell? ⟨g, off + j * 4 + 2, none⟩ = some (.int .i64 (t.n : Int)) ∧ w'.cell? ⟨g, off + j * 4 + 3, none⟩ = some (.int .i64 (t.p : Int)) ∧ Below w2.heap.size w2 w')
          (first | (go_split_ands; with_reducible exact ⟨keepc8 hb (by assumption), keepc8 hb (by assumption), keepc8 hb (by assumption), keepc8 hb (by assumption), belowT8 (by assumption) hb⟩) | exact ⟨a0, a1, a2, a3, Below.drew (Below.refl _ w2)⟩ | go_keep)
          (first
            | (go_at_call 9; refine (KT.out _).mono ?_; rintro e w3 ⟨rfl, hb⟩))
        all_goals go_split_ands
        all_goals
          have hb9 : Below w2.heap.size w2 w3 := by with_reducible assumption
          have HB3 := Lib.hid (belowT8 HB2.out hb9)
          replace HF := Lib.hid (HF.out.keep hb9)
          clear hb9 a0 a1 a2 a3
          go_wp2_with fail
          refine (KS2.out _ HB3.out).mono ?_
          rintro e w4 ⟨⟨v, rfl, hr⟩, hb4⟩
          obtain ⟨p2, c2, rfl, hf2⟩ := rowW_form hr
          simp only [HM2.out]
          have HF2 := Lib.hid hf2
          obtain ⟨g2, off2, rfl, b0, b1, b2, b3⟩ := hf2.in HE2.out
          have b0 : w4.cell? ⟨g2, off2 + (j + 1) * 4, none⟩ = some (.int .i64 4) := b0
          have hj12 : (j : Int) + 1 < (j : Int) + 2 := by omega
          replace HF := Lib.hid (HF.out.keep hb4)
          have HB4 := Lib.hid (belowT8 HB3.out hb4)
          clear hr hf2 hb4 b1 b2
          go_wp2
          clear b0 b3
          go_loopw [13] (fun v wr => ∃ i : Nat, v = .int .i64 (i : Int) ∧ i ≤ j + 1 ∧ Hid (Below w.heap.size w wr ∧ Below w4.heap.size w4 wr)) (fun v _ => j + 1 - (RowKit.intOf v).toNat)
          case atStart => exact ⟨0, rfl, Nat.zero_le _, Lib.hid ⟨HB4.out, Below.refl _ _⟩⟩
          case round =>
            obtain ⟨i, rfl, hi, HB⟩ := hrel
            by_cases hlt : i ≤ j
            · have hij : (i : Int) ≤ (j : Int) := by omega
              have hi0 : (0 : Int) ≤ (i : Int) := by omega
              have him : (i : Int) < (m : Int) := by have := HMM.out; have := HJM.out; omega
              have him' : i < m := by omega
              have hij2 : (i : Int) < (j : Int) + 2 := by omega
              have hij2' : i < j + 2 := by omega
              have hri : IntKind.i64.wrap ((i : Int) + 1) = ((i + 1 : Nat) : Int) := by have := HL.out; have := HM.out; rw [IntKind.wrap_i64] <;> omega
              obtain ⟨u, hu1, hu2⟩ := HI2.out i hlt
              obtain ⟨g3, off3, e3, x0, x1, x2, x3⟩ := (HF.out.keep HB.out.2).in hu2
              obtain ⟨rfl, rfl⟩ : g = g3 ∧ off = off3 := by simpa using e3
              obtain ⟨g3, off3, e4, y0, y1, y2, y3⟩ := (HF2.out.keep HB.out.2).in hu1
              obtain ⟨rfl, rfl⟩ : g2 = g3 ∧ off2 = off3 := by simpa using e4
              obtain ⟨us2, hus2⟩ : ∃ z : ByteArray, (⟨u.s.toArray⟩ : ByteArray) = z := ⟨_, rfl⟩
              rw [hus2] at x1 y1
              clear hus2 hu1 hu2 e3 e4
              go_wp2_with fail
              go_quiet (fail)
              have HB5 := Lib.hid (show Below w.heap.size w (wr.drewN nq) ∧ Below w4.heap.size w4 (wr.drewN nq) from ⟨belowT8 HB.out.1 (belowN8 _ _), belowT8 HB.out.2 (belowN8 _ _)⟩)
              go_wp2
              go_roundw
              case rel => exact ⟨i + 1, rfl, by omega, HB5⟩
              case measure => simp [RowKit.intOf]; omega
            · have hij : ¬ (i : Int) ≤ (j : Int) := by omega
              go_wp2
              go_ret
              exact ⟨rfl, HB.out.1⟩
    · have e1 : (er != 0) = true := by simpa using her
      clear her hsc C
      go_enter Tryd.func6, Tryd.ntmps6
      go_wp2_with fail
      refine (KA.out _ (Below.refl _ _)).mono ?_
      rintro e w1 ⟨rfl, hb1⟩
      have HB1 := Lib.hid hb1
      clear hb1
      go_wp2_with fail
      refine (KS.out _ HB1.out).mono ?_
      rintro e w2 ⟨⟨v, rfl, hr⟩, hb2⟩
      obtain ⟨p, c, rfl, hf⟩ := rowW_form hr
      have HB2 := Lib.hid (belowT8 HB1.out hb2)
      clear hr hf hb2
      go_wp2
      go_ret
      exact ⟨rfl, HB2.out⟩
  · have d1 : decide ((s.size : Int) > 6000) = true := decide_eq_true (by omega)
    have d2 : decide (6000 < s.size) = true := decide_eq_true (by omega)
    go_enter Tryd.func6, Tryd.ntmps6
    go_wp2_with fail
    refine (KA.out _ (Below.refl _ _)).mono ?_
    rintro e w1 ⟨rfl, hb1⟩
    have HB1 := Lib.hid hb1
    clear hb1
    go_wp2_with fail
    refine (KA.out _ HB1.out).mono ?_
    rintro e w2 ⟨rfl, hb2⟩
    have HB2 := Lib.hid (belowT8 HB1.out hb2)
    clear hb2
    go_wp2
    go_ret
    exact ⟨rfl, HB2.out⟩
end Go.Proofs.YtikpbfghdiomgaaDoor
