/-
  The contract of the given package's SpanTexts over this seat's translation. Conditions: the numbers are ints; the world bears what the library's functions on texts read.
-/
import Derived.Test.YtaicfgimaeojbaaDoorTextG
namespace Go.Proofs.YtaicfgimaeojbaaDoor
open Go.RowKit Tx
attribute [local go_sem ↓] Go.wp_at_zero Go.wp_at_succ

theorem textL_len {n d : Int} (hn : In64 n) (hd : In64 d) (h : rightB n d = true) : (textL n d).length ≤ 39 := by
  unfold textL
  by_cases hv : isNever n d
  · rw [if_pos hv]; simp
  · rw [if_neg hv]
    have hp := plain_of h hv
    have h1 := dec_len n.toNat (by have := hp.2.1; have := hn.2; omega)
    have h2 := dec_len d.toNat (by have := hp.1; have := hd.2; omega)
    by_cases e : d = 1
    · rw [if_pos e]; omega
    · rw [if_neg e, List.length_append, List.length_cons]; omega
theorem read_text (n d : Int) (hn : In64 n) (hd : In64 d) (h : rightB n d = true) (w : World) (he : Env w) :
    Calls Tryd.prog 6 #[.string (textS n d)] w fun e w' => e = .returned (.tuple #[.agg #[.int .i64 n, .int .i64 d], .int .i64 0]) ∧ Below w.heap.size w w' := by
  have e : textS n d = bs (textL n d) := by unfold textS; rw [if_pos h]
  have ed : (textS n d).data.toList = textL n d := by rw [e]
  refine (read_c (textS n d) (by rw [e, size_bs]; have := textL_len hn hd h; omega) w he).mono ?_
  rintro e w' ⟨n', d', c, rfl, hr, hb⟩
  have h0 : ReadP (textS n d).data.toList n d 0 := .inl ⟨rfl, hn, hd, h, ed⟩
  obtain ⟨rfl, rfl, rfl⟩ := hr.same h0
  exact ⟨rfl, hb⟩
theorem read_empty (w : World) (he : Env w) :
    Calls Tryd.prog 6 #[.string ⟨#[]⟩] w fun e w' => e = .returned (.tuple #[.agg #[.int .i64 0, .int .i64 0], .int .i64 6]) ∧ Below w.heap.size w w' := by
  refine (read_c ⟨#[]⟩ (by decide) w he).mono ?_
  rintro e w' ⟨n', d', c, rfl, hr, hb⟩
  have h0 : ReadP ([] : List UInt8) 0 0 6 := .inr ⟨rfl, rfl, rfl, fun n' d' ht => T_ne ht rfl⟩
  obtain ⟨rfl, rfl, rfl⟩ := ReadP.same hr h0
  exact ⟨rfl, hb⟩

set_option maxHeartbeats 1000000 in
set_option maxRecDepth 100000 in
theorem texts_wrong (n d : Int)
    (k0 : ∀ w : World, Env w → Calls Tryd.prog 5 #[.agg #[.int .i64 n, .int .i64 d]] w fun e w' => e = .returned (.string ⟨#[]⟩) ∧ Below w.heap.size w w')
    (k1 : ∀ w : World, Calls Tryd.prog 7 #[.agg #[.int .i64 n, .int .i64 d]] w fun e w' => e = .returned (.bool false) ∧ Below w.heap.size w w') (w : World) (he : Env w) :
    Calls Tryd.prog 3 #[.agg #[.int .i64 n, .int .i64 d]] w fun e w' => e = .returned (.bool true) ∧ Below w.heap.size w w' := by
  go_enter Tryd.func3, Tryd.ntmps3
  go_wp2_with fail
  refine (k0 _ (he.keep (belowA (Below.refl _ w) _))).mono ?_
  rintro e w1 ⟨rfl, hb⟩
  have FA : At2 w.heap.size n d w1 := At2.keep ⟨by go_simp, by go_simp⟩ hb
  have WB := belowT (belowA (Below.refl _ w) _) hb
  clear hb
  have HE := he.keep WB
  go_wp2_with fail
  refine (read_empty _ HE).mono ?_
  rintro e w2 ⟨rfl, hb⟩
  replace FA := (FA.keep hb).keep (belowA (Below.refl _ w2) (.cells #[.int .i64 0, .int .i64 0] 23))
  replace WB := belowT WB hb
  clear hb
  have FA2 := FA
  obtain ⟨c0, c1⟩ := FA2
  go_wp2_with fail
  refine (k1 _).mono ?_
  rintro e w3 ⟨rfl, hb⟩
  replace WB := belowT (belowA WB _) hb
  go_wp2_with fail
  refine (awake_c _).mono ?_
  rintro e w4 ⟨rfl, hb4⟩
  replace WB := belowT WB hb4
  go_wp2
  go_ret
  exact ⟨rfl, WB⟩

set_option maxHeartbeats 1000000 in
set_option maxRecDepth 100000 in
theorem texts_right (n d : Int) (s : ByteArray)
    (k0 : ∀ w : World, Env w → Calls Tryd.prog 5 #[.agg #[.int .i64 n, .int .i64 d]] w fun e w' => e = .returned (.string s) ∧ Below w.heap.size w w')
    (k1 : ∀ w : World, Env w → Calls Tryd.prog 6 #[.string s] w fun e w' => e = .returned (.tuple #[.agg #[.int .i64 n, .int .i64 d], .int .i64 0]) ∧ Below w.heap.size w w')
    (k2 : ∀ w : World, Calls Tryd.prog 7 #[.agg #[.int .i64 n, .int .i64 d]] w fun e w' => e = .returned (.bool true) ∧ Below w.heap.size w w')
    (k3 : ∀ w : World, Calls Tryd.prog 9 #[.agg #[.int .i64 n, .int .i64 d]] w fun e w' => e = .returned (.string s) ∧ Below w.heap.size w w') (w : World) (he : Env w) :
    Calls Tryd.prog 3 #[.agg #[.int .i64 n, .int .i64 d]] w fun e w' => e = .returned (.bool true) ∧ Below w.heap.size w w' := by
  go_enter Tryd.func3, Tryd.ntmps3
  go_wp2_with fail
  refine (k0 _ (he.keep (belowA (Below.refl _ w) _))).mono ?_
  rintro e w1 ⟨rfl, hb⟩
  have FA : At2 w.heap.size n d w1 := At2.keep ⟨by go_simp, by go_simp⟩ hb
  have WB := belowT (belowA (Below.refl _ w) _) hb
  clear hb
  have HE := he.keep WB
  go_wp2_with fail
  refine (k1 _ HE).mono ?_
  rintro e w2 ⟨rfl, hb⟩
  replace FA := (FA.keep hb).keep (belowA (Below.refl _ w2) (.cells #[.int .i64 n, .int .i64 d] 23))
  replace WB := belowT WB hb
  clear hb
  have FA2 := FA
  obtain ⟨c0, c1⟩ := FA2
  go_wp2_with fail
  refine (k2 _).mono ?_
  rintro e w3 ⟨rfl, hb⟩
  have FM : At2 w2.heap.size n d w3 := At2.keep ⟨by go_simp, by go_simp⟩ hb
  replace FA := FA.keep hb
  replace WB := belowT (belowA WB _) hb
  clear hb c0 c1
  go_wp2_with fail
  refine (awake_c _).mono ?_
  rintro e w4 ⟨rfl, hb⟩
  replace FA := FA.keep hb
  replace FM := FM.keep hb
  replace WB := belowT WB hb
  clear hb
  have FA2 := FA
  obtain ⟨c0, c1⟩ := FA2
  go_wp2_with fail
  refine (k3 _).mono ?_
  rintro e w5 ⟨rfl, hb⟩
  replace FA := FA.keep hb
  replace FM := FM.keep hb
  replace WB := belowT WB hb
  clear hb c0 c1
  obtain ⟨c0, c1⟩ := FA
  obtain ⟨d0, d1⟩ := FM
  go_wp2
  go_ret
  exact ⟨rfl, WB⟩

theorem texts_c (n d : Int) (hn : In64 n) (hd : In64 d) (w : World) (he : Env w) :
    Calls Tryd.prog 3 #[.agg #[.int .i64 n, .int .i64 d]] w fun e w' => e = .returned (.bool true) ∧ Below w.heap.size w w' := by
  have k0 := text_c n d hn hd
  have k2 := rright_c n d hn hd
  by_cases hr : rightB n d = true
  · rw [hr] at k2
    exact texts_right n d (textS n d) k0 (read_text n d hn hd hr) k2 (rtext_c n d hn hd hr) w he
  · rw [Bool.eq_false_iff.2 hr] at k2
    rw [textS_wrong hr] at k0
    exact texts_wrong n d k0 k2 w he
end Go.Proofs.YtaicfgimaeojbaaDoor
