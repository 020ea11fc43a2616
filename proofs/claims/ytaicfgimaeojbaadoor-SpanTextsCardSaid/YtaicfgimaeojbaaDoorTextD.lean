/-
  The contract of span.Text over this seat's translation, whole, and of the given package's Text. Conditions: the numbers are ints; the world bears what the library's functions on texts read.
-/
import Derived.Test.YtaicfgimaeojbaaDoorTextC
namespace Go.Proofs.YtaicfgimaeojbaaDoor
open Go.RowKit
attribute [local go_sem ↓] Go.wp_at_zero Go.wp_at_succ

abbrev bs (l : List UInt8) : ByteArray := ⟨l.toArray⟩
def textS (n d : Int) : ByteArray := if rightB n d = true then bs (textL n d) else ⟨#[]⟩
theorem textS_wrong {n d : Int} (h : ¬ rightB n d = true) : textS n d = ⟨#[]⟩ := by unfold textS; rw [if_neg h]
theorem textS_never : textS 1 0 = ⟨#[110, 101, 118, 101, 114]⟩ := by unfold textS; rw [if_pos right_never]; rfl
theorem textS_one {n : Int} (h : rightB n 1 = true) : textS n 1 = bs (Lib.decDigits n.toNat) := by
  unfold textS textL
  rw [if_pos h, if_neg (by unfold isNever; omega), if_pos rfl]
theorem textS_two {n d : Int} (h : rightB n d = true) (hn : ¬ isNever n d) (hd : ¬ d = 1) : textS n d = bs (Lib.decDigits n.toNat ++ (47 :: Lib.decDigits d.toNat)) := by
  unfold textS textL
  rw [if_pos h, if_neg hn, if_neg hd]

set_option maxHeartbeats 400000 in
set_option maxRecDepth 100000 in
theorem text_wrong (n d : Int)
    (k0 : ∀ w : World, Calls Tryd.prog 11 #[.agg #[.int .i64 n, .int .i64 d]] w fun e w' => e = .returned (.bool false) ∧ Below w.heap.size w w') (w : World) :
    Calls Tryd.prog 5 #[.agg #[.int .i64 n, .int .i64 d]] w fun e w' => e = .returned (.string ⟨#[]⟩) ∧ Below w.heap.size w w' := by
  have K0 := Lib.hid k0
  clear k0
  go_enter Tryd.func5, Tryd.ntmps5
  go_wp2_with fail
  refine (K0.out _).mono ?_
  rintro e w1 ⟨rfl, hb⟩
  have WB := belowT (belowA (Below.refl _ w) _) hb
  clear hb
  go_wp2
  go_ret
  exact ⟨rfl, WB⟩

set_option maxHeartbeats 1000000 in
set_option maxRecDepth 100000 in
theorem text_never 
    (k0 : ∀ w : World, Calls Tryd.prog 11 #[.agg #[.int .i64 1, .int .i64 0]] w fun e w' => e = .returned (.bool true) ∧ Below w.heap.size w w') (w : World) (he : Env w) :
    Calls Tryd.prog 5 #[.agg #[.int .i64 1, .int .i64 0]] w fun e w' => e = .returned (.string ⟨#[110, 101, 118, 101, 114]⟩) ∧ Below w.heap.size w w' := by
  have K0 := Lib.hid k0
  clear k0
  go_enter Tryd.func5, Tryd.ntmps5
  go_wp2_with fail
  refine (K0.out _).mono ?_
  rintro e w1 ⟨rfl, hb⟩
  have FA : At2 w.heap.size 1 0 w1 := At2.keep ⟨by go_simp, by go_simp⟩ hb
  have WB := belowT (belowA (Below.refl _ w) _) hb
  clear hb
  have HE := he.keep WB
  have FA2 := FA
  obtain ⟨c0, c1⟩ := FA2
  go_wp2_with fail
  go_region_held3 (fun w' => w'.cell? ⟨w.heap.size, 0, none⟩ = some (.int .i64 1) ∧ w'.cell? ⟨w.heap.size, 1, none⟩ = some (.int .i64 0) ∧ Env w' ∧ Below w.heap.size w w')
    (first | exact ⟨c0, c1, HE.keep (Below.drew (Below.refl _ _)), Below.drew WB⟩ | (go_split_ands; exact ⟨keepc hb (by assumption), keepc hb (by assumption), Env.keep (by assumption) hb, belowT (by assumption) hb⟩) | go_keep)
    (first | (go_at_call 12; refine (never_c _).mono ?_; rintro e w5 ⟨rfl, hb⟩))
  all_goals go_split_ands
  all_goals clear c0 c1 HE WB
  all_goals (have WB : Below w.heap.size w w5 := by assumption)
  all_goals (have HE : Env w5 := by assumption)
  all_goals go_wp2
  all_goals go_ret
  all_goals exact ⟨rfl, WB⟩

set_option maxHeartbeats 1000000 in
set_option maxRecDepth 100000 in
theorem text_one (n : Int) (n0 : 0 ≤ n) (n1 : n ≤ 9223372036854775807) (hz : (n == 1) = false)
    (k0 : ∀ w : World, Calls Tryd.prog 11 #[.agg #[.int .i64 n, .int .i64 1]] w fun e w' => e = .returned (.bool true) ∧ Below w.heap.size w w') (w : World) (he : Env w) :
    Calls Tryd.prog 5 #[.agg #[.int .i64 n, .int .i64 1]] w fun e w' => e = .returned (.string ⟨(Lib.decDigits n.toNat).toArray⟩) ∧ Below w.heap.size w w' := by
  have K0 := Lib.hid k0
  clear k0
  have hl := dec_len n.toNat (by omega)
  have KD := Lib.hid (itoa_c n n0 n1)
  generalize Lib.decDigits n.toNat = L at *
  go_enter Tryd.func5, Tryd.ntmps5
  go_wp2_with fail
  refine (K0.out _).mono ?_
  rintro e w1 ⟨rfl, hb⟩
  have FA : At2 w.heap.size n 1 w1 := At2.keep ⟨by go_simp, by go_simp⟩ hb
  have WB := belowT (belowA (Below.refl _ w) _) hb
  clear hb
  have HE := he.keep WB
  have FA2 := FA
  obtain ⟨c0, c1⟩ := FA2
  go_wp2_with fail
  go_region_held3 (fun w' => w'.cell? ⟨w.heap.size, 0, none⟩ = some (.int .i64 n) ∧ w'.cell? ⟨w.heap.size, 1, none⟩ = some (.int .i64 1) ∧ Env w' ∧ Below w.heap.size w w')
    (first | exact ⟨c0, c1, HE.keep (Below.drew (Below.refl _ _)), Below.drew WB⟩ | (go_split_ands; exact ⟨keepc hb (by assumption), keepc hb (by assumption), Env.keep (by assumption) hb, belowT (by assumption) hb⟩) | go_keep)
    (first | (go_at_call 12; refine (never_c _).mono ?_; rintro e w5 ⟨rfl, hb⟩))
  all_goals go_split_ands
  all_goals clear c0 c1 HE WB
  all_goals (have WB : Below w.heap.size w w5 := by assumption)
  all_goals (have HE : Env w5 := by assumption)
  all_goals go_wp2_with fail
  all_goals (go_at_call_of 13 (Value.int .i64 n); refine (KD.out _ ?_).mono ?_)
  all_goals first | exact HE | skip
  all_goals rintro e w6 ⟨rfl, hb⟩
  all_goals go_wp2
  all_goals go_ret
  all_goals exact ⟨rfl, belowT WB hb⟩

set_option maxHeartbeats 1000000 in
set_option maxRecDepth 100000 in
theorem text_one1 
    (k0 : ∀ w : World, Calls Tryd.prog 11 #[.agg #[.int .i64 1, .int .i64 1]] w fun e w' => e = .returned (.bool true) ∧ Below w.heap.size w w') (w : World) (he : Env w) :
    Calls Tryd.prog 5 #[.agg #[.int .i64 1, .int .i64 1]] w fun e w' => e = .returned (.string ⟨(Lib.decDigits 1).toArray⟩) ∧ Below w.heap.size w w' := by
  have K0 := Lib.hid k0
  clear k0
  have KD := Lib.hid (itoa_c 1 (by omega) (by omega))
  rw [show (1 : Int).toNat = 1 from rfl] at KD
  generalize Lib.decDigits 1 = L at *
  go_enter Tryd.func5, Tryd.ntmps5
  go_wp2_with fail
  refine (K0.out _).mono ?_
  rintro e w1 ⟨rfl, hb⟩
  have FA : At2 w.heap.size 1 1 w1 := At2.keep ⟨by go_simp, by go_simp⟩ hb
  have WB := belowT (belowA (Below.refl _ w) _) hb
  clear hb
  have HE := he.keep WB
  have FA2 := FA
  obtain ⟨c0, c1⟩ := FA2
  go_wp2_with fail
  go_region_held3 (fun w' => w'.cell? ⟨w.heap.size, 0, none⟩ = some (.int .i64 1) ∧ w'.cell? ⟨w.heap.size, 1, none⟩ = some (.int .i64 1) ∧ Env w' ∧ Below w.heap.size w w')
    (first | exact ⟨c0, c1, HE.keep (Below.drew (Below.refl _ _)), Below.drew WB⟩ | (go_split_ands; exact ⟨keepc hb (by assumption), keepc hb (by assumption), Env.keep (by assumption) hb, belowT (by assumption) hb⟩) | go_keep)
    (first | (go_at_call 12; refine (never_c _).mono ?_; rintro e w5 ⟨rfl, hb⟩))
  all_goals go_split_ands
  all_goals clear c0 c1 HE WB
  all_goals (have WB : Below w.heap.size w w5 := by assumption)
  all_goals (have HE : Env w5 := by assumption)
  all_goals go_wp2_with fail
  all_goals (go_at_call_of 13 (Value.int .i64 1); refine (KD.out _ ?_).mono ?_)
  all_goals first | exact HE | skip
  all_goals rintro e w6 ⟨rfl, hb⟩
  all_goals go_wp2
  all_goals go_ret
  all_goals exact ⟨rfl, belowT WB hb⟩

set_option maxHeartbeats 1000000 in
set_option maxRecDepth 100000 in
theorem text_two (n d : Int) (n0 : 0 ≤ n) (n1 : n ≤ 9223372036854775807) (d0 : 0 ≤ d) (d1 : d ≤ 9223372036854775807) (hd : ¬ d = 1) (hz : (n == 1) = false)
    (k0 : ∀ w : World, Calls Tryd.prog 11 #[.agg #[.int .i64 n, .int .i64 d]] w fun e w' => e = .returned (.bool true) ∧ Below w.heap.size w w') (w : World) (he : Env w) :
    Calls Tryd.prog 5 #[.agg #[.int .i64 n, .int .i64 d]] w fun e w' => e = .returned (.string ⟨(Lib.decDigits n.toNat ++ (47 :: Lib.decDigits d.toNat)).toArray⟩) ∧ Below w.heap.size w w' := by
  have K0 := Lib.hid k0
  clear k0
  have hl := dec_len (n : Int).toNat (by omega)
  have hl2 := dec_len d.toNat (by omega)
  have KD := Lib.hid (itoa_c n n0 n1)
  have KE := Lib.hid (itoa_c d d0 d1)
  have hdz : (d == 1) = false := by simpa using hd
  generalize hgL : Lib.decDigits (n : Int).toNat = L at *
  generalize hgM : Lib.decDigits d.toNat = M at *
  clear hgL hgM
  have hl3 : ¬ 9223372036854775807 < L.length + 1 := by omega
  have hl4 : ¬ 9223372036854775807 < L.length + 1 + M.length := by omega
  go_enter Tryd.func5, Tryd.ntmps5
  go_wp2_with fail
  refine (K0.out _).mono ?_
  rintro e w1 ⟨rfl, hb⟩
  have FA : At2 w.heap.size n d w1 := At2.keep ⟨by go_simp, by go_simp⟩ hb
  have WB := belowT (belowA (Below.refl _ w) _) hb
  clear hb
  have HE := he.keep WB
  have FA2 := FA
  obtain ⟨c0, c1⟩ := FA2
  go_wp2_with fail
  go_region_held3 (fun w' => w'.cell? ⟨w.heap.size, 0, none⟩ = some (.int .i64 n) ∧ w'.cell? ⟨w.heap.size, 1, none⟩ = some (.int .i64 d) ∧ Env w' ∧ Below w.heap.size w w')
    (first | exact ⟨c0, c1, HE.keep (Below.drew (Below.refl _ _)), Below.drew WB⟩ | (go_split_ands; exact ⟨keepc hb (by assumption), keepc hb (by assumption), Env.keep (by assumption) hb, belowT (by assumption) hb⟩) | go_keep)
    (first | (go_at_call 12; refine (never_c _).mono ?_; rintro e w5 ⟨rfl, hb⟩))
  all_goals go_split_ands
  all_goals clear c0 c1 HE WB
  all_goals (have WB : Below w.heap.size w w5 := by assumption)
  all_goals (have HE : Env w5 := by assumption)
  all_goals go_wp2_with fail
  go_region_held3 (fun w' => w'.cell? ⟨w.heap.size, 0, none⟩ = some (.int .i64 n) ∧ w'.cell? ⟨w.heap.size, 1, none⟩ = some (.int .i64 d) ∧ Env w' ∧ Below w.heap.size w w')
    (first | exact ⟨by assumption, by assumption, HE.keep (Below.drew (Below.refl _ _)), Below.drew WB⟩ | (go_split_ands; exact ⟨keepc hb (by assumption), keepc hb (by assumption), Env.keep (by assumption) hb, belowT (by assumption) hb⟩) | go_keep)
    (first
      | (go_at_call_of 13 (Value.int .i64 n); refine (KD.out _ (by first | assumption | (go_split_ands; assumption) | trace_state)).mono ?_; rintro e w6 ⟨rfl, hb⟩)
      | (go_at_call_of 13 (Value.int .i64 d); refine (KE.out _ (by first | assumption | (go_split_ands; assumption) | trace_state)).mono ?_; rintro e w6 ⟨rfl, hb⟩))
  all_goals go_wp2
  all_goals go_ret
  all_goals exact ⟨ret_str (by rw [show (⟨#[47]⟩ : ByteArray) = ⟨([47] : List UInt8).toArray⟩ from rfl, bapp, bapp]; simp), (by repeat (first | with_reducible assumption | with_reducible exact Below.refl _ _ | with_reducible refine belowN ?_ _ | with_reducible refine Below.drew ?_ | with_reducible refine belowA ?_ _ | with_reducible refine belowT ?_ (by assumption)))⟩

set_option maxHeartbeats 1000000 in
set_option maxRecDepth 100000 in
theorem text_two1 (d : Int) (d0 : 0 ≤ d) (d1 : d ≤ 9223372036854775807) (hd : ¬ d = 1) (hz : (d == 0) = false)
    (k0 : ∀ w : World, Calls Tryd.prog 11 #[.agg #[.int .i64 1, .int .i64 d]] w fun e w' => e = .returned (.bool true) ∧ Below w.heap.size w w') (w : World) (he : Env w) :
    Calls Tryd.prog 5 #[.agg #[.int .i64 1, .int .i64 d]] w fun e w' => e = .returned (.string ⟨(Lib.decDigits (1 : Int).toNat ++ (47 :: Lib.decDigits d.toNat)).toArray⟩) ∧ Below w.heap.size w w' := by
  have K0 := Lib.hid k0
  clear k0
  have hl := dec_len (1 : Int).toNat (by omega)
  have hl2 := dec_len d.toNat (by omega)
  have KD := Lib.hid (itoa_c 1 (by omega) (by omega))
  have KE := Lib.hid (itoa_c d d0 d1)
  have hdz : (d == 1) = false := by simpa using hd
  generalize hgL : Lib.decDigits (1 : Int).toNat = L at *
  generalize hgM : Lib.decDigits d.toNat = M at *
  clear hgL hgM
  have hl3 : ¬ 9223372036854775807 < L.length + 1 := by omega
  have hl4 : ¬ 9223372036854775807 < L.length + 1 + M.length := by omega
  go_enter Tryd.func5, Tryd.ntmps5
  go_wp2_with fail
  refine (K0.out _).mono ?_
  rintro e w1 ⟨rfl, hb⟩
  have FA : At2 w.heap.size 1 d w1 := At2.keep ⟨by go_simp, by go_simp⟩ hb
  have WB := belowT (belowA (Below.refl _ w) _) hb
  clear hb
  have HE := he.keep WB
  have FA2 := FA
  obtain ⟨c0, c1⟩ := FA2
  go_wp2_with fail
  go_region_held3 (fun w' => w'.cell? ⟨w.heap.size, 0, none⟩ = some (.int .i64 1) ∧ w'.cell? ⟨w.heap.size, 1, none⟩ = some (.int .i64 d) ∧ Env w' ∧ Below w.heap.size w w')
    (first | exact ⟨c0, c1, HE.keep (Below.drew (Below.refl _ _)), Below.drew WB⟩ | (go_split_ands; exact ⟨keepc hb (by assumption), keepc hb (by assumption), Env.keep (by assumption) hb, belowT (by assumption) hb⟩) | go_keep)
    (first | (go_at_call 12; refine (never_c _).mono ?_; rintro e w5 ⟨rfl, hb⟩))
  all_goals go_split_ands
  all_goals clear c0 c1 HE WB
  all_goals (have WB : Below w.heap.size w w5 := by assumption)
  all_goals (have HE : Env w5 := by assumption)
  all_goals go_wp2_with fail
  go_region_held3 (fun w' => w'.cell? ⟨w.heap.size, 0, none⟩ = some (.int .i64 1) ∧ w'.cell? ⟨w.heap.size, 1, none⟩ = some (.int .i64 d) ∧ Env w' ∧ Below w.heap.size w w')
    (first | exact ⟨by assumption, by assumption, HE.keep (Below.drew (Below.refl _ _)), Below.drew WB⟩ | (go_split_ands; exact ⟨keepc hb (by assumption), keepc hb (by assumption), Env.keep (by assumption) hb, belowT (by assumption) hb⟩) | go_keep)
    (first
      | (go_at_call_of 13 (Value.int .i64 1); refine (KD.out _ (by first | assumption | (go_split_ands; assumption) | trace_state)).mono ?_; rintro e w6 ⟨rfl, hb⟩)
      | (go_at_call_of 13 (Value.int .i64 d); refine (KE.out _ (by first | assumption | (go_split_ands; assumption) | trace_state)).mono ?_; rintro e w6 ⟨rfl, hb⟩))
  all_goals go_wp2
  all_goals go_ret
  all_goals exact ⟨ret_str (by rw [show (⟨#[47]⟩ : ByteArray) = ⟨([47] : List UInt8).toArray⟩ from rfl, bapp, bapp]; simp), (by repeat (first | with_reducible assumption | with_reducible exact Below.refl _ _ | with_reducible refine belowN ?_ _ | with_reducible refine Below.drew ?_ | with_reducible refine belowA ?_ _ | with_reducible refine belowT ?_ (by assumption)))⟩

theorem text_c (n d : Int) (hn : In64 n) (hd : In64 d) (w : World) (he : Env w) :
    Calls Tryd.prog 5 #[.agg #[.int .i64 n, .int .i64 d]] w fun e w' => e = .returned (.string (textS n d)) ∧ Below w.heap.size w w' := by
  have k0 := right_c n d hn hd
  by_cases hr : rightB n d = true
  · rw [hr] at k0
    by_cases hv : isNever n d
    · obtain ⟨rfl, rfl⟩ := hv
      rw [textS_never]
      exact text_never k0 w he
    · have hp := plain_of hr hv
      have hp1 := hp.1
      have hp2 := hp.2.1
      by_cases h1 : d = 1
      · subst h1
        rw [textS_one hr]
        rcases never_or hv with h | ⟨rfl, h⟩
        · exact text_one n hp2 hn.2 h k0 w he
        · exact text_one1 k0 w he
      · rw [textS_two hr hv h1]
        rcases never_or hv with h | ⟨rfl, h⟩
        · exact text_two n d hp2 hn.2 (by omega) hd.2 h1 h k0 w he
        · exact text_two1 d (by omega) hd.2 h1 h k0 w he
  · rw [textS_wrong hr]
    rw [Bool.eq_false_iff.2 hr] at k0
    exact text_wrong n d k0 w

theorem rtext_c (n d : Int) (hn : In64 n) (hd : In64 d) (hr : rightB n d = true) (w : World) :
    Calls Tryd.prog 9 #[.agg #[.int .i64 n, .int .i64 d]] w fun e w' => e = .returned (.string (textS n d)) ∧ Below w.heap.size w w' := by
  have k1 := rright_c n d hn hd
  rw [hr] at k1
  by_cases hv : isNever n d
  · obtain ⟨rfl, rfl⟩ := hv
    rw [textS_never]
    exact rtext_never 1 0 rnever_yes w
  · have hp := plain_of hr hv
    have hp1 := hp.1
    have hp2 := hp.2.1
    have k0 := rnever_no n d hv
    by_cases h1 : d = 1
    · subst h1
      rw [textS_one hr]
      exact rtext_one n hp2 hn.2 k0 k1 w
    · rw [textS_two hr hv h1]
      exact rtext_two n d hp2 hn.2 (by omega) hd.2 h1 k0 k1 w
end Go.Proofs.YtaicfgimaeojbaaDoor
