/-
  The contracts of package value's TypeText over this seat's translation: the text of a right type. Conditions: those that each theorem states.
-/
import Derived.Test.YtbgpipdbnjoeeaaDoorBrackS
import Derived.Test.YtbgpipdbnjoeeaaDoorTRightA
namespace Go.Proofs.YtbgpipdbnjoeeaaDoor
open Go.RowKit Go.ChangeShapes Go.WideShapes Go.ChangeAt Go.Deep
attribute [local go_sem ↓] Go.wp_at_zero Go.wp_at_succ

set_option maxHeartbeats 1000000 in
theorem eachTS_c (E : World → Prop) (hE : Stays E) (t : TT) (h1 : 1 ≤ t.len) (h4 : t.len ≤ 20) (S : Nat → ByteArray)
    (ih : ∀ i, i < t.len → ∀ (sl : Value) (w : World), E w → TT.In w (t.kid i) sl → Calls Tryd.prog 26 #[(t.kid i).val sl] w fun e w' => e = .returned (.string (S i)) ∧ Below w.heap.size w w')
    (sl : Value) (w : World) (he : E w) (hin : TT.In w t sl) :
    Calls Tryd.prog 46 #[sl, .func (.func 26) #[] #[]] w (Strs w t.len S) := by
  obtain ⟨_, hl, p, cap, rfl, hlc, hcap, hk⟩ := hin.out
  obtain ⟨b, o, rfl, hk2⟩ := hk h1
  have HK : Hid (TT.Kids w t b o) := hk2
  have HI := Lib.hid ih
  have HE := Lib.hid he
  clear hk hk2 hin ih he
  have hz : ((t.len : Int) == 0) = false := by simp; omega
  have hmk := run_make_row' (P := Tryd.prog) 58 9 (.string ⟨#[]⟩) 16 Tryd.underlying58 infoStr rfl .i64 .i64 t.len (by omega) (by omega)
  go_enter Tryd.func46, Tryd.ntmps46
  go_wp2
  clear hmk
  go_loopw [16] (fun vk wr => ∃ k : Nat, vk = .int .i64 k ∧ k ≤ t.len ∧ wr.rowIs w.heap.size 9 t.len (upto S k) ∧ Below w.heap.size w wr) (fun vk _ => t.len - (intOf vk).toNat)
  case atStart => exact ⟨0, rfl, Nat.zero_le _, (World.rowIs_made w _ t.len 9).congr (fun j _ => by simp [upto]), bA (Below.refl _ _) _⟩
  case round =>
    obtain ⟨k, rfl, hkl, hrow, hbl⟩ := hrel
    have HR := Lib.hid hrow
    clear hrow
    by_cases hlt : k < t.len
    · obtain ⟨sl', ⟨c0, c3⟩, hkin⟩ := HK.out.keep hbl k hlt
      obtain ⟨p', cap', rfl⟩ := hkin.slice
      have HN := Lib.hid hkin
      clear hkin
      have hr2 := HI.out k hlt
      have HC := Lib.hid hr2
      clear hr2
      have hE2 := hE _ _ hbl HE.out
      have HE2 := Lib.hid hE2
      clear hE2
      go_wp2_with (go_at_call 26; go_must (refine (HC.out _ _ (hE _ _ (bA (Below.refl _ _) _) HE2.out) (inT (bA (Below.refl _ _) _) HN.out)).mono ?_); rintro e w3 ⟨rfl, hb⟩; have hrow3 := (HR.out.alloc (.cells #[.int .i64 (t.kid k).k, .slice p' (t.kid k).len cap'] 40)).of_block (hb.block _ (by simp; exact Nat.lt_succ_of_lt HR.out.lt)); have HR3 := Lib.hid hrow3; clear hrow3; have hc := HR3.out.cell hlt; have hf := HR3.out.frozen k)
      go_roundw
      case rel => exact ⟨k + 1, by go_num, by omega, (HR3.out.set k _).congr (fun i _ => upto_set S k i), bS (bT hbl (bT (bA (Below.refl _ _) _) hb)) (by simp) _⟩
      case measure => simp [intOf]; omega
    · have e : k = t.len := by omega
      subst e
      go_wp2
      go_ret
      exact ⟨w.heap.size, rfl, HR.out.congr (fun i hi => by unfold upto; rw [if_pos hi]), hbl⟩

set_option maxHeartbeats 1000000 in
theorem bracketsT_c (E : World → Prop) (hE : Stays E) (t : TT) (h1 : 1 ≤ t.len) (h4 : t.len ≤ 20) (S : Nat → List UInt8) (hS : ∀ i, i < t.len → (S i).length ≤ 10000)
    (ih : ∀ i, i < t.len → ∀ (sl : Value) (w : World), E w → TT.In w (t.kid i) sl → Calls Tryd.prog 26 #[(t.kid i).val sl] w fun e w' => e = .returned (.string (bs (S i))) ∧ Below w.heap.size w w')
    (sl : Value) (w : World) (he : E w) (hin : TT.In w t sl) :
    Calls Tryd.prog 38 #[sl, .func (.func 26) #[] #[]] w fun e w' => e = .returned (.string (bs (tupL S t.len))) ∧ Below w.heap.size w w' := by
  have ke := eachTS_c E hE t h1 h4 (fun i => bs (S i)) ih sl w he hin
  have KE := Lib.hid ke
  obtain ⟨_, hl, p, cap, rfl, hlc, hcap, hk⟩ := hin.out
  have hj := joinL_len S t.len 10000 hS
  have hjl : (joinL S t.len).length ≤ 100000000 := by
    have : t.len * (10000 + 2) ≤ 20 * (10000 + 2) := Nat.mul_le_mul_right _ h4
    omega
  have KJ := fun bk w hr => Lib.hid (join_row bk t.len S w hr (by omega) hjl)
  have HJ := Lib.hid KJ
  clear ke hk hin ih he KJ hj hS
  have hl1 : ¬ 9223372036854775807 < (joinL S t.len).length := by omega
  have hl2 : ¬ 9223372036854775807 < (joinL S t.len).length + 1 := by omega
  have hl3 : ¬ 9223372036854775807 < 1 + (joinL S t.len).length := by omega
  have hl4 : ¬ 9223372036854775807 < 1 + (joinL S t.len).length + 1 := by omega
  have hl5 : ¬ 9223372036854775807 < 1 + ((joinL S t.len).length + 1) := by omega
  have hl6 : ¬ 9223372036854775807 < 1 + ((joinL S t.len).length + 1) + 1 := by omega
  by_cases h : t.len = 1
  · have hz : ((t.len : Int) == 1) = true := by simp [h]
    have ht : bs (tupL S t.len) = bs [40] ++ (bs (joinL S t.len) ++ bs [44]) ++ bs [41] := by rw [bs_app, bs_app, bs_app]; unfold tupL; rw [if_pos h]; simp
    have HT := Lib.hid ht
    clear ht h
    generalize joinL S t.len = L at *
    go_enter Tryd.func38, Tryd.ntmps38
    go_wp2_with (first
      | (go_at_call 46; go_must (refine KE.out.mono ?_); rintro e w3 ⟨bk, rfl, hrow, hb⟩; have HR := Lib.hid hrow; clear hrow)
      | (go_at_call 43; go_must (refine (HJ.out _ _ HR.out).out.mono ?_); rintro e w4 ⟨rfl, hb2⟩))
    go_ret
    exact ⟨rstr HT.out.symm, bT hb hb2⟩
  · have hz : ((t.len : Int) == 1) = false := by simp; omega
    have ht : bs (tupL S t.len) = bs [40] ++ bs (joinL S t.len) ++ bs [41] := by rw [bs_app, bs_app]; unfold tupL; rw [if_neg h]; simp
    have HT := Lib.hid ht
    clear ht h
    generalize joinL S t.len = L at *
    go_enter Tryd.func38, Tryd.ntmps38
    go_wp2_with (first
      | (go_at_call 46; go_must (refine KE.out.mono ?_); rintro e w3 ⟨bk, rfl, hrow, hb⟩; have HR := Lib.hid hrow; clear hrow)
      | (go_at_call 43; go_must (refine (HJ.out _ _ HR.out).out.mono ?_); rintro e w4 ⟨rfl, hb2⟩))
    go_ret
    exact ⟨rstr HT.out.symm, bT hb hb2⟩

namespace TT
def leafT (t : TT) : List UInt8 := if t.k = 0 then [105, 110, 116] else if t.k = 1 then [98, 111, 111, 108] else [115, 121, 109]
def textM : Nat → TT → List UInt8
  | 0, t => leafT t
  | m + 1, t => if t.k = 3 then tupL (fun i => textM m (t.kid i)) t.len else leafT t
theorem textM_leaf {t : TT} (h : t.k ≠ 3) : ∀ m, textM m t = leafT t
  | 0 => rfl
  | m + 1 => by show (if t.k = 3 then _ else _) = _; rw [if_neg h]
theorem textM_tup {t : TT} (h : t.k = 3) (m : Nat) : textM (m + 1) t = tupL (fun i => textM m (t.kid i)) t.len := by show (if t.k = 3 then _ else _) = _; rw [if_pos h]
theorem rightB_kids {t : TT} {m : Nat} (h : rightB (m + 1) t = true) (h3 : t.k = 3) : 1 ≤ t.len ∧ t.len ≤ 4 ∧ ∀ i, i < t.len → rightB m (t.kid i) = true := by
  rw [rightB_tup h3, itemsB_succ] at h
  simp at h
  exact ⟨by omega, by omega, allTo_true.1 h.2⟩
theorem rightB_zero {t : TT} (h : rightB 0 t = true) : t.k ≠ 3 := fun h3 => by
  rw [rightB_tup h3] at h
  simp [itemsB] at h
theorem rightB_of {t : TT} {m : Nat} (h : rightB m t = true) : t.k = 0 ∨ t.k = 1 ∨ t.k = 2 ∨ t.k = 3 := by
  by_cases h3 : t.k = 3
  · exact .inr (.inr (.inr h3))
  · rw [rightB_leaf h3] at h
    unfold leafB at h
    simp at h
    omega
theorem leafT_len (t : TT) : (leafT t).length ≤ 21 := by
  unfold leafT
  (repeat' split) <;> simp
theorem textM_len : ∀ (m : Nat) (t : TT), rightB m t = true → (textM m t).length ≤ 21 * 6 ^ m
  | 0, t, h => by simpa [textM] using leafT_len t
  | m + 1, t, h => by
    have hp : 1 ≤ 6 ^ m := Nat.one_le_pow _ _ (by omega)
    by_cases h3 : t.k = 3
    · rw [textM_tup h3]
      obtain ⟨h1, h4, hk⟩ := rightB_kids h h3
      have hl := tupL_len (fun i => textM m (t.kid i)) t.len (21 * 6 ^ m) (fun i hil => textM_len m (t.kid i) (hk i hil))
      have h5 : t.len * (21 * 6 ^ m + 2) ≤ 4 * (21 * 6 ^ m + 2) := Nat.mul_le_mul_right _ h4
      rw [Nat.pow_succ]
      omega
    · rw [textM_leaf h3]
      have := leafT_len t
      rw [Nat.pow_succ]
      omega
end TT

set_option maxHeartbeats 1000000 in
theorem ttext_leaf (t : TT) (hr : t.k = 0 ∨ t.k = 1 ∨ t.k = 2) (sl : Value) (w : World) (hin : TT.In w t sl) :
    Calls Tryd.prog 26 #[t.val sl] w fun e w' => e = .returned (.string (bs (TT.leafT t))) ∧ Below w.heap.size w w' := by
  obtain ⟨p, cap, rfl⟩ := hin.slice
  clear hin
  have HT := Lib.hid (show TT.leafT t = if t.k = 0 then [105, 110, 116] else if t.k = 1 then [98, 111, 111, 108] else [115, 121, 109] from rfl)
  unfold TT.val
  generalize t.k = k at *
  rcases hr with rfl | rfl | rfl
  all_goals
    go_enter Tryd.func26, Tryd.ntmps26
    go_wp2
    go_ret
    exact ⟨rstr (by rw [HT.out]; rfl), bA (Below.refl _ _) _⟩

set_option maxHeartbeats 1000000 in
theorem ttext_tup (t : TT) (h : t.k = 3) (L : List UInt8) (sl : Value) (w : World) (hin : TT.In w t sl)
    (ih : ∀ w, TT.In w t sl → Calls Tryd.prog 38 #[sl, .func (.func 26) #[] #[]] w fun e w' => e = .returned (.string (bs L)) ∧ Below w.heap.size w w') :
    Calls Tryd.prog 26 #[t.val sl] w fun e w' => e = .returned (.string (bs L)) ∧ Below w.heap.size w w' := by
  have HI := Lib.hid ih
  have HN := Lib.hid hin
  obtain ⟨p, cap, rfl⟩ := hin.slice
  clear hin ih
  unfold TT.val
  rw [h]
  clear h
  go_enter Tryd.func26, Tryd.ntmps26
  go_wp2_with (go_at_call 38; go_must (refine (HI.out _ (inT (bA (Below.refl _ _) _) HN.out)).mono ?_); rintro e w3 ⟨rfl, hb⟩)
  go_ret
  exact ⟨rfl, bT (bA (Below.refl _ _) _) hb⟩

theorem ttext_v : ∀ (m : Nat), m ≤ 3 → ∀ (t : TT), TT.rightB m t = true → ∀ (sl : Value) (w : World), TT.In w t sl →
    Calls Tryd.prog 26 #[t.val sl] w fun e w' => e = .returned (.string (bs (TT.textM m t))) ∧ Below w.heap.size w w' := by
  intro m
  induction m with
  | zero =>
    intro _ t hr sl w hin
    refine ttext_leaf t ?_ sl w hin
    rcases TT.rightB_of hr with h1 | h1 | h1 | h1
    · exact .inl h1
    · exact .inr (.inl h1)
    · exact .inr (.inr h1)
    · exact absurd h1 (TT.rightB_zero hr)
  | succ m ih =>
    intro hm t hr sl w hin
    by_cases h3 : t.k = 3
    · rw [TT.textM_tup h3]
      obtain ⟨h1, h4, hk⟩ := TT.rightB_kids hr h3
      have hp : 21 * 6 ^ m ≤ 10000 := by
        have : 6 ^ m ≤ 6 ^ 2 := Nat.pow_le_pow_right (by omega) (by omega)
        omega
      exact ttext_tup t h3 _ sl w hin fun w hin => bracketsT_c (fun _ => True) (fun _ _ _ h => h) t h1 (by omega) (fun i => TT.textM m (t.kid i)) (fun i hi => Nat.le_trans (TT.textM_len m (t.kid i) (hk i hi)) hp) (fun i hi sl w _ hin => ih (by omega) (t.kid i) (hk i hi) sl w hin) sl w trivial hin
    · rw [TT.textM_leaf h3]
      refine ttext_leaf t ?_ sl w hin
      rcases TT.rightB_of hr with h1 | h1 | h1 | h1
      · exact .inl h1
      · exact .inr (.inl h1)
      · exact .inr (.inr h1)
      · exact absurd h1 h3

def TT.textB (t : TT) : List UInt8 := if t.okB = true then TT.textM 3 t else []

set_option maxHeartbeats 1000000 in
theorem ttext_cv (t : TT) (sl : Value) (w : World) (hin : TT.In w t sl) :
    Calls Tryd.prog 13 #[t.val sl] w fun e w' => e = .returned (.string (bs t.textB)) ∧ Below w.heap.size w w' := by
  have HN := Lib.hid hin
  obtain ⟨p, cap, rfl⟩ := hin.slice
  have kr := tright_cv t (.slice p t.len cap)
  have B1 := Lib.hid (bA (Below.refl w.heap.size w) (.cells #[.int .i64 t.k, .slice p t.len cap] 40))
  have c : TT.Cell2 (w.alloc (.cells #[.int .i64 t.k, .slice p t.len cap] 40)) w.heap.size 0 t (.slice p t.len cap) := ⟨by go_simp, by go_simp⟩
  have C := Lib.hid c
  clear hin c
  cases hr : t.okB with
  | true =>
    rw [hr] at kr
    have kt := ttext_v 3 (by omega) t hr (.slice p t.len cap)
    rw [show TT.textM 3 t = t.textB from by unfold TT.textB; rw [if_pos hr]] at kt
    have KR := Lib.hid kr
    have KT := Lib.hid kt
    clear kr kt hr
    unfold TT.val at KR KT ⊢
    go_enter Tryd.func13, Tryd.ntmps13
    go_wp2_with (first
      | (go_at_call 25; go_must (refine (KR.out _ (inT B1.out HN.out)).mono ?_); rintro e w3 ⟨rfl, hb⟩; obtain ⟨c0, c3⟩ := C.out.keep hb)
      | (go_at_call 26; go_must (refine (KT.out _ (inT (bT B1.out hb) HN.out)).mono ?_); rintro e w4 ⟨rfl, hb2⟩))
    go_ret
    exact ⟨rfl, bT (bT B1.out hb) hb2⟩
  | false =>
    rw [hr] at kr
    have HT := Lib.hid (show t.textB = [] from by unfold TT.textB; rw [hr]; simp)
    have KR := Lib.hid kr
    clear kr hr
    unfold TT.val at KR ⊢
    go_enter Tryd.func13, Tryd.ntmps13
    go_wp2_with (go_at_call 25; go_must (refine (KR.out _ (inT B1.out HN.out)).mono ?_); rintro e w3 ⟨rfl, hb⟩)
    go_ret
    exact ⟨rstr (by rw [HT.out]), bT B1.out hb⟩
end Go.Proofs.YtbgpipdbnjoeeaaDoor
