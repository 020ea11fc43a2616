/-
  The contracts of the given package gavotteref01's Text over this seat's translation: the text of a time. Conditions: those that each theorem states.
-/
import Derived.Test.YtaicfgimaeojbaaDoorTextB
namespace Go.Proofs.YtaicfgimaeojbaaDoor
open Go.RowKit
attribute [local go_sem ↓] Go.wp_at_zero Go.wp_at_succ

set_option maxHeartbeats 400000 in
set_option maxRecDepth 100000 in
theorem rtext_never (n d : Int) 
    (k0 : ∀ w : World, Calls Tryd.prog 15 #[.agg #[.int .i64 n, .int .i64 d]] w fun e w' => e = .returned (.bool true) ∧ Below w.heap.size w w') (w : World) :
    Calls Tryd.prog 9 #[.agg #[.int .i64 n, .int .i64 d]] w fun e w' => e = .returned (.string ⟨#[110, 101, 118, 101, 114]⟩) ∧ Below w.heap.size w w' := by
  have K0 := Lib.hid k0
  clear k0
  go_enter Tryd.func9, Tryd.ntmps9
  go_wp2_with fail
  refine (K0.out _).mono ?_
  rintro e w1 ⟨rfl, hb⟩
  have FA : At2 w.heap.size n d w1 := At2.keep ⟨by go_simp, by go_simp⟩ hb
  have WB := belowT (belowA (Below.refl _ w) _) hb
  clear hb
  have FA2 := FA
  obtain ⟨c0, c1⟩ := FA2
  go_wp2
  go_ret
  exact ⟨rfl, WB⟩

set_option maxHeartbeats 400000 in
set_option maxRecDepth 100000 in
theorem rtext_one (n : Int) (n0 : 0 ≤ n) (n1 : n ≤ 9223372036854775807)
    (k0 : ∀ w : World, Calls Tryd.prog 15 #[.agg #[.int .i64 n, .int .i64 1]] w fun e w' => e = .returned (.bool false) ∧ Below w.heap.size w w')
    (k1 : ∀ w : World, Calls Tryd.prog 7 #[.agg #[.int .i64 n, .int .i64 1]] w fun e w' => e = .returned (.bool true) ∧ Below w.heap.size w w') (w : World) :
    Calls Tryd.prog 9 #[.agg #[.int .i64 n, .int .i64 1]] w fun e w' => e = .returned (.string ⟨(Lib.decDigits n.toNat).toArray⟩) ∧ Below w.heap.size w w' := by
  have K0 := Lib.hid k0
  clear k0
  have K1 := Lib.hid k1
  clear k1
  have hl := dec_len n.toNat (by omega)
  have KD := Lib.hid (dec_c n.toNat (by omega))
  rw [Int.toNat_of_nonneg n0] at KD
  generalize Lib.decDigits n.toNat = L at *
  go_enter Tryd.func9, Tryd.ntmps9
  go_wp2_with fail
  refine (K0.out _).mono ?_
  rintro e w1 ⟨rfl, hb⟩
  have FA : At2 w.heap.size n 1 w1 := At2.keep ⟨by go_simp, by go_simp⟩ hb
  have WB := belowT (belowA (Below.refl _ w) _) hb
  clear hb
  have FA2 := FA
  obtain ⟨c0, c1⟩ := FA2
  go_wp2_with fail
  refine (K1.out _).mono ?_
  rintro e w2 ⟨rfl, hb⟩
  replace FA := FA.keep hb
  replace WB := belowT WB hb
  clear hb c0 c1
  have FA2 := FA
  obtain ⟨c0, c1⟩ := FA2
  go_wp2_with fail
  refine (KD.out _).mono ?_
  rintro e w3 ⟨rfl, hb⟩
  go_wp2
  go_ret
  exact ⟨rfl, belowT WB hb⟩

set_option maxHeartbeats 400000 in
set_option maxRecDepth 100000 in
theorem rtext_two (n d : Int) (n0 : 0 ≤ n) (n1 : n ≤ 9223372036854775807) (d0 : 0 ≤ d) (d1 : d ≤ 9223372036854775807) (hd : ¬ d = 1)
    (k0 : ∀ w : World, Calls Tryd.prog 15 #[.agg #[.int .i64 n, .int .i64 d]] w fun e w' => e = .returned (.bool false) ∧ Below w.heap.size w w')
    (k1 : ∀ w : World, Calls Tryd.prog 7 #[.agg #[.int .i64 n, .int .i64 d]] w fun e w' => e = .returned (.bool true) ∧ Below w.heap.size w w') (w : World) :
    Calls Tryd.prog 9 #[.agg #[.int .i64 n, .int .i64 d]] w fun e w' => e = .returned (.string ⟨(Lib.decDigits n.toNat ++ (47 :: Lib.decDigits d.toNat)).toArray⟩) ∧ Below w.heap.size w w' := by
  have K0 := Lib.hid k0
  clear k0
  have K1 := Lib.hid k1
  clear k1
  have hl := dec_len n.toNat (by omega)
  have hl2 := dec_len d.toNat (by omega)
  have KD := Lib.hid (dec_c n.toNat (by omega))
  have KE := Lib.hid (dec_c d.toNat (by omega))
  rw [Int.toNat_of_nonneg n0] at KD
  rw [Int.toNat_of_nonneg d0] at KE
  have hdz : (d == 1) = false := by simpa using hd
  generalize Lib.decDigits n.toNat = L at *
  generalize Lib.decDigits d.toNat = M at *
  have hl3 : ¬ 9223372036854775807 < L.length + 1 := by omega
  have hl4 : ¬ 9223372036854775807 < L.length + 1 + M.length := by omega
  go_enter Tryd.func9, Tryd.ntmps9
  go_wp2_with fail
  refine (K0.out _).mono ?_
  rintro e w1 ⟨rfl, hb⟩
  have FA : At2 w.heap.size n d w1 := At2.keep ⟨by go_simp, by go_simp⟩ hb
  have WB := belowT (belowA (Below.refl _ w) _) hb
  clear hb
  have FA2 := FA
  obtain ⟨c0, c1⟩ := FA2
  go_wp2_with fail
  refine (K1.out _).mono ?_
  rintro e w2 ⟨rfl, hb⟩
  replace FA := FA.keep hb
  replace WB := belowT WB hb
  clear hb c0 c1
  have FA2 := FA
  obtain ⟨c0, c1⟩ := FA2
  go_wp2_with fail
  go_region_held3 (fun w' => w'.cell? ⟨w.heap.size, 0, none⟩ = some (.int .i64 n) ∧ w'.cell? ⟨w.heap.size, 1, none⟩ = some (.int .i64 d) ∧ Below w.heap.size w w')
    (first | exact ⟨c0, c1, Below.drew WB⟩ | (go_split_ands; exact ⟨keepc hb (by assumption), keepc hb (by assumption), belowT (by assumption) hb⟩) | go_keep)
    (first
      | (go_at_call_of 21 (Value.int .i64 n); refine (KD.out _).mono ?_; rintro e w6 ⟨rfl, hb⟩)
      | (go_at_call_of 21 (Value.int .i64 d); refine (KE.out _).mono ?_; rintro e w6 ⟨rfl, hb⟩))
  all_goals go_wp2
  all_goals go_ret
  all_goals exact ⟨ret_str (by rw [show (⟨#[47]⟩ : ByteArray) = ⟨([47] : List UInt8).toArray⟩ from rfl, bapp, bapp]; simp), (by repeat (first | with_reducible assumption | with_reducible exact Below.refl _ _ | with_reducible refine belowN ?_ _ | with_reducible refine Below.drew ?_ | with_reducible refine belowA ?_ _ | with_reducible refine belowT ?_ (by assumption)))⟩

end Go.Proofs.YtaicfgimaeojbaaDoor
