/-
  The contracts of package value's Text over this seat's translation: the text of a right value. Conditions: those that each theorem states.
-/
import Derived.Test.YtbgpipdbnjoeeaaDoorBrackS
import Derived.Test.YtbgpipdbnjoeeaaDoorRightB
import Derived.Test.YtbgpipdbnjoeeaaDoorShelfA
import Derived.Lib.ItoaLen
namespace Go.Proofs.YtbgpipdbnjoeeaaDoor
open Go.RowKit Go.ChangeShapes Go.WideShapes Go.ChangeAt Go.Deep
attribute [local go_sem ↓] Go.wp_at_zero Go.wp_at_succ

/-- The table that the library's numerals are read off. -/
def Tab (w : World) : Prop := Lib.TabIs Tryd.prog w "internal/strconv.uint64pow10" .u64 Lib.pow10Tab
theorem tab_stays : Stays Tab := by
  intro w w' hb h
  unfold Tab Lib.TabIs World.var? at *
  cases hg : Tryd.prog.globalNamed "internal/strconv.uint64pow10" with
  | none => rw [hg] at h; simp at h
  | some g =>
    rw [hg] at h
    simp only [Option.bind_some] at h ⊢
    cases hh : w.heap[g]? with
    | none => rw [hh] at h; simp at h
    | some o =>
      have hlt : g < w.heap.size := (Array.getElem?_eq_some_iff.1 hh).1
      rw [hb.block g hlt]
      exact h
theorem bGrow (w : World) (k : Nat) (os : Array Obj) : Below w.heap.size w (Go.Sort.grow (w.drewN k) os) := by
  refine ⟨rfl, rfl, rfl, ?_, fun i hi => ?_⟩
  · show w.heap.size ≤ (w.heap ++ os).size
    simp
  · show (w.heap ++ os)[i]? = w.heap[i]?
    rw [Array.getElem?_append_left hi]
theorem itoa_v (n : Int) (h : I64 n) (w : World) (ht : Tab w) :
    Calls Tryd.prog 34 #[.int .i64 n] w fun e w' => e = .returned (.string (bs (Lib.itoa n))) ∧ Below w.heap.size w w' := by
  refine (Tryd.strconv_Itoa n h.1 h.2 w ht).mono ?_
  rintro e w' ⟨rfl, k, os, rfl⟩
  exact ⟨rfl, bGrow w k os⟩
theorem fbool_v (b : Bool) (w : World) :
    Calls Tryd.prog 35 #[.bool b] w fun e w' => e = .returned (.string (bs (Lib.formatBool b))) ∧ w = w' := by
  refine (Tryd.strconv_FormatBool b w).mono ?_
  rintro e w' ⟨rfl, rfl⟩
  exact ⟨rfl, rfl⟩

namespace VT
def leafT (t : VT) : List UInt8 := if t.k = 0 then Lib.itoa t.n else if t.k = 1 then Lib.formatBool (t.n == 1) else 39 :: t.s.data.toList
theorem leafT0 {t : VT} (h : t.k = 0) : leafT t = Lib.itoa t.n := by unfold leafT; simp [h]
theorem leafT1 {t : VT} (h : t.k = 1) : leafT t = Lib.formatBool (t.n == 1) := by unfold leafT; simp [h]
theorem leafT2 {t : VT} (h : t.k = 2) : leafT t = 39 :: t.s.data.toList := by unfold leafT; simp [h]
/-- The text of a right value with at most m tuples within one another. -/
def textM : Nat → VT → List UInt8
  | 0, t => leafT t
  | m + 1, t => if t.k = 3 then tupL (fun i => textM m (t.kid i)) t.len else leafT t
theorem textM_leaf {t : VT} (h : t.k ≠ 3) : ∀ m, textM m t = leafT t
  | 0 => rfl
  | m + 1 => by show (if t.k = 3 then _ else _) = _; rw [if_neg h]
theorem textM_tup {t : VT} (h : t.k = 3) (m : Nat) : textM (m + 1) t = tupL (fun i => textM m (t.kid i)) t.len := by show (if t.k = 3 then _ else _) = _; rw [if_pos h]
theorem leafB_k {t : VT} (h : leafB t = true) : t.k = 0 ∨ t.k = 1 ∨ (t.k = 2 ∧ isName t.s) := by
  by_cases h0 : t.k = 0
  · exact .inl h0
  · by_cases h1 : t.k = 1
    · exact .inr (.inl h1)
    · by_cases h2 : t.k = 2
      · rw [leaf2 h2] at h
        simp at h
        exact .inr (.inr ⟨h2, by have := h.2.1; unfold nameB at this; simpa using this⟩)
      · rw [leaf9 h0 h1 h2] at h; cases h
theorem rightB_kids {t : VT} {m : Nat} (h : rightB (m + 1) t = true) (h3 : t.k = 3) : 1 ≤ t.len ∧ t.len ≤ 4 ∧ ∀ i, i < t.len → rightB m (t.kid i) = true := by
  rw [rightB_tup h3, itemsB_succ] at h
  simp at h
  exact ⟨by omega, by omega, allTo_true.1 h.2.2.2⟩
theorem rightB_zero {t : VT} (h : rightB 0 t = true) : t.k ≠ 3 := fun h3 => by
  rw [rightB_tup h3] at h
  simp [itemsB] at h
theorem rightB_of {t : VT} {m : Nat} (h : rightB m t = true) : t.k = 0 ∨ t.k = 1 ∨ (t.k = 2 ∧ isName t.s) ∨ t.k = 3 := by
  by_cases h3 : t.k = 3
  · exact .inr (.inr (.inr h3))
  · rw [rightB_leaf h3] at h
    rcases leafB_k h with h | h | h
    · exact .inl h
    · exact .inr (.inl h)
    · exact .inr (.inr (.inl h))
theorem leafT_len {t : VT} (hn : I64 t.n) (h : t.k = 0 ∨ t.k = 1 ∨ (t.k = 2 ∧ isName t.s)) : (leafT t).length ≤ 21 := by
  rcases h with h | h | ⟨h, hs⟩
  · rw [leafT0 h]
    exact Lib.itoa_length_le _ hn.1 hn.2
  · rw [leafT1 h]
    cases t.n == 1 <;> decide
  · rw [leafT2 h]
    have := hs.2.1
    have e : t.s.data.toList.length = t.s.size := Array.length_toList
    rw [List.length_cons, e]
    omega
/-- A right value's text is short. -/
theorem textM_len : ∀ (m : Nat) (t : VT) (w : World) (sl : Value), In w t sl → rightB m t = true → (textM m t).length ≤ 21 * 6 ^ m
  | 0, t, w, sl, hin, h => by
    have := leafT_len hin.out.2.1 (by rcases rightB_of h with h1 | h1 | h1 | h1
                                      · exact .inl h1
                                      · exact .inr (.inl h1)
                                      · exact .inr (.inr h1)
                                      · exact absurd h1 (rightB_zero h))
    simpa [textM] using this
  | m + 1, t, w, sl, hin, h => by
    have hp : 1 ≤ 6 ^ m := Nat.one_le_pow _ _ (by omega)
    by_cases h3 : t.k = 3
    · rw [textM_tup h3]
      obtain ⟨h1, h4, hk⟩ := rightB_kids h h3
      obtain ⟨_, _, _, _, _, _, _, _, _, hi⟩ := hin.out
      obtain ⟨b, o, _, hi⟩ := hi h1
      have hl := tupL_len (fun i => textM m (t.kid i)) t.len (21 * 6 ^ m) (fun i hil => by
        obtain ⟨sl', _, hin'⟩ := hi i hil
        exact textM_len m (t.kid i) w sl' hin' (hk i hil))
      have h5 : t.len * (21 * 6 ^ m + 2) ≤ 4 * (21 * 6 ^ m + 2) := Nat.mul_le_mul_right _ h4
      rw [Nat.pow_succ]
      omega
    · rw [textM_leaf h3]
      have := leafT_len hin.out.2.1 (by rcases rightB_of h with h1 | h1 | h1 | h1
                                        · exact .inl h1
                                        · exact .inr (.inl h1)
                                        · exact .inr (.inr h1)
                                        · exact absurd h1 h3)
      rw [Nat.pow_succ]
      omega
end VT

set_option maxHeartbeats 1000000 in
theorem text_leaf (t : VT) (hr : t.k = 0 ∨ t.k = 1 ∨ (t.k = 2 ∧ isName t.s)) (sl : Value) (w : World) (he : Tab w) (hin : VT.In w t sl) :
    Calls Tryd.prog 24 #[t.val sl] w fun e w' => e = .returned (.string (bs (VT.leafT t))) ∧ Below w.heap.size w w' := by
  obtain ⟨_, hn, hs, hl, p, cap, rfl, hlc, hcap, hk⟩ := hin.out
  have HE := Lib.hid (tab_stays _ _ (bA (Below.refl _ w) (.cells #[.int .i64 t.k, .int .i64 t.n, .string t.s, .slice p t.len cap] 24)) he)
  clear hk hin he
  unfold VT.val
  rcases hr with h | h | ⟨h, hname⟩
  · have HT := Lib.hid (VT.leafT0 h)
    rw [h] at HE ⊢
    clear h
    go_enter Tryd.func24, Tryd.ntmps24
    go_wp2_with (go_at_call 34; go_must (refine (itoa_v _ hn _ HE.out).mono ?_); rintro e w3 ⟨rfl, hb⟩)
    go_ret
    exact ⟨rstr (by rw [HT.out]), bT (bA (Below.refl _ _) _) hb⟩
  · have HT := Lib.hid (VT.leafT1 h)
    rw [h]
    clear h HE
    go_enter Tryd.func24, Tryd.ntmps24
    go_wp2_with (go_at_call 35; go_must (refine (fbool_v _ _).mono ?_); rintro e w3 ⟨rfl, rfl⟩)
    go_ret
    exact ⟨rstr (by rw [HT.out]), bA (Below.refl _ _) _⟩
  · have HT := Lib.hid (VT.leafT2 h)
    have h16 := hname.2.1
    rw [h]
    clear h HE hname
    have hl1 : ¬ 9223372036854775807 < 1 + t.s.size := by omega
    go_enter Tryd.func24, Tryd.ntmps24
    go_wp2
    go_ret
    exact ⟨rstr (by rw [HT.out, show t.s = bs t.s.data.toList from rfl, show (⟨#[39]⟩ : ByteArray) = bs [39] from rfl, bs_app]; rfl), bA (Below.refl _ _) _⟩

set_option maxHeartbeats 1000000 in
theorem text_tup (t : VT) (h : t.k = 3) (L : List UInt8) (sl : Value) (w : World) (he : Tab w) (hin : VT.In w t sl)
    (ih : ∀ w, Tab w → VT.In w t sl → Calls Tryd.prog 36 #[sl, .func (.func 24) #[] #[]] w fun e w' => e = .returned (.string (bs L)) ∧ Below w.heap.size w w') :
    Calls Tryd.prog 24 #[t.val sl] w fun e w' => e = .returned (.string (bs L)) ∧ Below w.heap.size w w' := by
  have HI := Lib.hid ih
  have HN := Lib.hid hin
  obtain ⟨p, cap, rfl⟩ := hin.slice
  have HE := Lib.hid he
  clear hin he ih
  unfold VT.val
  rw [h]
  clear h
  go_enter Tryd.func24, Tryd.ntmps24
  go_wp2_with (go_at_call 36; go_must (refine (HI.out _ (tab_stays _ _ (bA (Below.refl _ _) _) HE.out) (inK (bA (Below.refl _ _) _) HN.out)).mono ?_); rintro e w3 ⟨rfl, hb⟩)
  go_ret
  exact ⟨rfl, bT (bA (Below.refl _ _) _) hb⟩

theorem text_v : ∀ (m : Nat), m ≤ 3 → ∀ (t : VT), VT.rightB m t = true → ∀ (sl : Value) (w : World), Tab w → VT.In w t sl →
    Calls Tryd.prog 24 #[t.val sl] w fun e w' => e = .returned (.string (bs (VT.textM m t))) ∧ Below w.heap.size w w' := by
  intro m
  induction m with
  | zero =>
    intro _ t hr sl w he hin
    refine text_leaf t ?_ sl w he hin
    rcases VT.rightB_of hr with h1 | h1 | h1 | h1
    · exact .inl h1
    · exact .inr (.inl h1)
    · exact .inr (.inr h1)
    · exact absurd h1 (VT.rightB_zero hr)
  | succ m ih =>
    intro hm t hr sl w he hin
    by_cases h3 : t.k = 3
    · rw [VT.textM_tup h3]
      obtain ⟨h1, h4, hk⟩ := VT.rightB_kids hr h3
      have hp : 21 * 6 ^ m ≤ 10000 := by
        have : 6 ^ m ≤ 6 ^ 2 := Nat.pow_le_pow_right (by omega) (by omega)
        omega
      refine text_tup t h3 _ sl w he hin fun w he hin => bracketsV_c Tab tab_stays t h1 (by omega) (fun i => VT.textM m (t.kid i)) (fun i hi => ?_) (fun i hi sl w he hin => ih (by omega) (t.kid i) (hk i hi) sl w he hin) sl w he hin
      obtain ⟨_, _, _, _, _, _, _, _, _, hi2⟩ := hin.out
      obtain ⟨b, o, _, hi2⟩ := hi2 h1
      obtain ⟨sl', _, hin'⟩ := hi2 i hi
      exact Nat.le_trans (VT.textM_len m (t.kid i) w sl' hin' (hk i hi)) hp
    · rw [VT.textM_leaf h3]
      refine text_leaf t ?_ sl w he hin
      rcases VT.rightB_of hr with h1 | h1 | h1 | h1
      · exact .inl h1
      · exact .inr (.inl h1)
      · exact .inr (.inr h1)
      · exact absurd h1 h3

def VT.textB (t : VT) : List UInt8 := if t.okB = true then VT.textM 3 t else []

set_option maxHeartbeats 1000000 in
theorem text_cv (t : VT) (sl : Value) (w : World) (he : Tab w) (hin : VT.In w t sl) :
    Calls Tryd.prog 12 #[t.val sl] w fun e w' => e = .returned (.string (bs t.textB)) ∧ Below w.heap.size w w' := by
  have HN := Lib.hid hin
  have HE := Lib.hid he
  obtain ⟨p, cap, rfl⟩ := hin.slice
  have kr := right_cv t (.slice p t.len cap)
  have B1 := Lib.hid (bA (Below.refl w.heap.size w) (.cells #[.int .i64 t.k, .int .i64 t.n, .string t.s, .slice p t.len cap] 24))
  have c : VT.Cell4 (w.alloc (.cells #[.int .i64 t.k, .int .i64 t.n, .string t.s, .slice p t.len cap] 24)) w.heap.size 0 t (.slice p t.len cap) := ⟨by go_simp, by go_simp, by go_simp, by go_simp⟩
  have C := Lib.hid c
  clear hin he c
  cases hr : t.okB with
  | true =>
    rw [hr] at kr
    have kt := text_v 3 (by omega) t hr (.slice p t.len cap)
    rw [show VT.textM 3 t = t.textB from by unfold VT.textB; rw [if_pos hr]] at kt
    have KR := Lib.hid kr
    have KT := Lib.hid kt
    clear kr kt hr
    unfold VT.val at KR KT ⊢
    go_enter Tryd.func12, Tryd.ntmps12
    go_wp2_with (first
      | (go_at_call 11; go_must (refine (KR.out _ (inK B1.out HN.out)).mono ?_); rintro e w3 ⟨rfl, hb⟩; obtain ⟨c0, c1, c2, c3⟩ := C.out.keep hb)
      | (go_at_call 24; go_must (refine (KT.out _ (tab_stays _ _ (bT B1.out hb) HE.out) (inK (bT B1.out hb) HN.out)).mono ?_); rintro e w4 ⟨rfl, hb2⟩))
    go_ret
    exact ⟨rfl, bT (bT B1.out hb) hb2⟩
  | false =>
    rw [hr] at kr
    have HT := Lib.hid (show t.textB = [] from by unfold VT.textB; rw [hr]; simp)
    have KR := Lib.hid kr
    clear kr hr
    unfold VT.val at KR ⊢
    go_enter Tryd.func12, Tryd.ntmps12
    go_wp2_with (go_at_call 11; go_must (refine (KR.out _ (inK B1.out HN.out)).mono ?_); rintro e w3 ⟨rfl, hb⟩)
    go_ret
    exact ⟨rstr (by rw [HT.out]), bT B1.out hb⟩
end Go.Proofs.YtbgpipdbnjoeeaaDoor
