/-
  The contracts of package value's Copy over this seat's translation: a value alike, in new memory. Conditions: those that each theorem states.
-/
import Derived.Test.YtbgpipdbnjoeeaaDoorRightB
import Derived.Test.YtbgpipdbnjoeeaaDoorSmallV
import Derived.Test.YtbgpipdbnjoeeaaDoorShelfC
import Derived.Deep.OwnRows
namespace Go.Proofs.YtbgpipdbnjoeeaaDoor
open Go.RowKit Go.ChangeShapes Go.WideShapes Go.ChangeAt Go.Deep
attribute [local go_sem ↓] Go.wp_at_zero Go.wp_at_succ

theorem clone_v (s : ByteArray) (hs : s.size ≤ 1000) (w : World) : Calls Tryd.prog 30 #[.string s] w fun e w' => e = .returned (.string s) ∧ Below w.heap.size w w' := by
  have HC := Lib.hid fun w => Tryd.stringslite_Clone s w (by omega)
  go_enter Tryd.func30, Tryd.ntmps30
  go_wp2_with (go_at_call 40; go_must (refine (HC.out _).mono ?_); rintro e w3 ⟨rfl, hb⟩)
  go_ret
  exact ⟨rfl, hb⟩

namespace VT
/-- The tree lies in blocks from B on. -/
def Fresh (B : Nat) (w : World) : VT → Value → Prop
  | .mk k n s len kids, sl => I64 k ∧ I64 n ∧ s.size ≤ 9223372036854775807 ∧ len ≤ 9223372036854775807 ∧ ∃ (p : Option Addr) (cap : Nat), sl = .slice p len cap ∧ len ≤ cap ∧ cap ≤ 9223372036854775807 ∧
      (0 < len → ∃ b o, B ≤ b ∧ p = some ⟨b, o, none⟩ ∧ ∀ i (h : i < len), ∃ sl', Cell4 w b (o + i * 4) (kids ⟨i, h⟩) sl' ∧ Fresh B w (kids ⟨i, h⟩) sl')
theorem Fresh.into {B : Nat} {w : World} : ∀ {t : VT} {sl : Value}, Fresh B w t sl → In w t sl := by
  intro t
  induction t with
  | mk k n s len kids ih =>
    rintro sl ⟨h1, h2, h3, h4, p, cap, hsl, hcap, hsz, hi⟩
    refine ⟨h1, h2, h3, h4, p, cap, hsl, hcap, hsz, fun hl => ?_⟩
    obtain ⟨b, o, _, hp, hi⟩ := hi hl
    refine ⟨b, o, hp, fun i hil => ?_⟩
    obtain ⟨sl', ⟨c0, c1, c2, c3⟩, hk⟩ := hi i hil
    exact ⟨sl', c0, c1, c2, c3, ih _ hk⟩
theorem Fresh.keep {B B' : Nat} {w w' : World} (hB : B' ≤ B) (hc : ∀ b o v, B ≤ b → w.cell? ⟨b, o, none⟩ = some v → w'.cell? ⟨b, o, none⟩ = some v) : ∀ {t : VT} {sl : Value}, Fresh B w t sl → Fresh B' w' t sl := by
  intro t
  induction t with
  | mk k n s len kids ih =>
    rintro sl ⟨h1, h2, h3, h4, p, cap, hsl, hcap, hsz, hi⟩
    refine ⟨h1, h2, h3, h4, p, cap, hsl, hcap, hsz, fun hl => ?_⟩
    obtain ⟨b, o, hb, hp, hi⟩ := hi hl
    refine ⟨b, o, by omega, hp, fun i hil => ?_⟩
    obtain ⟨sl', ⟨c0, c1, c2, c3⟩, hk⟩ := hi i hil
    exact ⟨sl', ⟨hc _ _ _ hb c0, hc _ _ _ hb c1, hc _ _ _ hb c2, hc _ _ _ hb c3⟩, ih _ hk⟩
theorem Fresh.below {B : Nat} {w w' : World} (hb : Below w.heap.size w w') {t : VT} {sl : Value} (h : Fresh B w t sl) : Fresh B w' t sl := h.keep (Nat.le_refl _) fun _ _ _ _ c => kc hb c
theorem Fresh.mono {B B' : Nat} {w : World} (hB : B' ≤ B) {t : VT} {sl : Value} (h : Fresh B w t sl) : Fresh B' w t sl := h.keep hB fun _ _ _ _ c => c
theorem Fresh.mk' {B : Nat} {w : World} {t : VT} {sl : Value} (h1 : I64 t.k) (h2 : I64 t.n) (h3 : t.s.size ≤ 9223372036854775807) (h4 : t.len ≤ 9223372036854775807) {p : Option Addr} {cap : Nat} (hsl : sl = .slice p t.len cap) (hlc : t.len ≤ cap) (hcap : cap ≤ 9223372036854775807)
    (hi : 0 < t.len → ∃ b o, B ≤ b ∧ p = some ⟨b, o, none⟩ ∧ ∀ i, i < t.len → ∃ sl', Cell4 w b (o + i * 4) (t.kid i) sl' ∧ Fresh B w (t.kid i) sl') : Fresh B w t sl := by
  cases t with
  | mk k n s len kids =>
    refine ⟨h1, h2, h3, h4, p, cap, hsl, hlc, hcap, fun hl => ?_⟩
    obtain ⟨b, o, hB, hp, hi⟩ := hi hl
    refine ⟨b, o, hB, hp, fun i (hil : i < len) => ?_⟩
    obtain ⟨sl', hc, hk⟩ := hi i hil
    rw [kid_mk hil] at hc hk
    exact ⟨sl', hc, hk⟩
end VT

/-- A new value alike, by value. -/
def RetV (w : World) (T : VT) (e : Ending) (w' : World) : Prop :=
  ∃ (p : Option Addr) (cap : Nat), e = .returned (T.val (.slice p T.len cap)) ∧ T.Fresh w.heap.size w' (.slice p T.len cap) ∧ Below w.heap.size w w'
/-- A new list of the same items. -/
def RetVs (w : World) (T : VT) (e : Ending) (w' : World) : Prop :=
  ∃ (p : Option Addr) (cap : Nat), e = .returned (.slice p T.len cap) ∧ T.Fresh w.heap.size w' (.slice p T.len cap) ∧ Below w.heap.size w w'

/-- The cells of a list of values of which the first k are laid. -/
def vcell (ty : Nat → VT) (SL : Nat → Value) (k : Nat) : Nat → Value := fun j => if j / 4 < k then (if j % 4 = 0 then .int .i64 (ty (j / 4)).k else if j % 4 = 1 then .int .i64 (ty (j / 4)).n else if j % 4 = 2 then .string (ty (j / 4)).s else SL (j / 4)) else
  (if j % 4 = 0 then .int .i64 0 else if j % 4 = 1 then .int .i64 0 else if j % 4 = 2 then .string ⟨#[]⟩ else .slice none 0 0)
theorem vcell_set (ty : Nat → VT) (SL : Nat → Value) (k : Nat) (s : Value) (j : Nat) :
    (if j = k * 4 + 3 then s else if j = k * 4 + 2 then .string (ty k).s else if j = k * 4 + 1 then .int .i64 (ty k).n else if j = k * 4 then .int .i64 (ty k).k else vcell ty SL k j) = vcell ty (fun i => if i = k then s else SL i) (k + 1) j := by
  unfold vcell
  by_cases hk : j / 4 = k
  · subst hk
    rw [if_pos (by omega : j / 4 < j / 4 + 1)]
    by_cases h3 : j = j / 4 * 4 + 3
    · rw [if_pos h3, if_neg (by omega), if_neg (by omega), if_neg (by omega)]
      show s = if j / 4 = j / 4 then s else _
      rw [if_pos rfl]
    · rw [if_neg h3]
      by_cases h2 : j = j / 4 * 4 + 2
      · rw [if_pos h2, if_neg (by omega), if_neg (by omega), if_pos (by omega)]
      · rw [if_neg h2]
        by_cases h1 : j = j / 4 * 4 + 1
        · rw [if_pos h1, if_neg (by omega), if_pos (by omega)]
        · rw [if_neg h1, if_pos (by omega), if_pos (by omega)]
  · rw [if_neg (by omega), if_neg (by omega), if_neg (by omega), if_neg (by omega)]
    by_cases h : j / 4 < k
    · rw [if_pos h, if_pos (by omega : j / 4 < k + 1)]
      by_cases m0 : j % 4 = 0
      · rw [if_pos m0, if_pos m0]
      · rw [if_neg m0, if_neg m0]
        by_cases m1 : j % 4 = 1
        · rw [if_pos m1, if_pos m1]
        · rw [if_neg m1, if_neg m1]
          by_cases m2 : j % 4 = 2
          · rw [if_pos m2, if_pos m2]
          · rw [if_neg m2, if_neg m2]
            show SL (j / 4) = if j / 4 = k then s else SL (j / 4)
            rw [if_neg hk]
    · rw [if_neg h, if_neg (by omega : ¬ j / 4 < k + 1)]
/-- Where k items are done. -/
def RelV (B : Nat) (w : World) (bk len : Nat) (ty : Nat → VT) (k : Nat) (wr : World) : Prop :=
  ∃ SL : Nat → Value, wr.rowIs bk 24 (len * 4) (vcell ty SL k) ∧ (∀ i, i < k → VT.Fresh (bk + 1) wr (ty i) (SL i)) ∧ B ≤ bk ∧ Below w.heap.size w wr
theorem relV_step {B : Nat} {w w1 : World} {bk len : Nat} {ty : Nat → VT} {k : Nat} (h : RelV B w bk len ty k w1) (hB : w.heap.size ≤ bk) {w3 : World} {s : Value} (hb : Below w1.heap.size w1 w3) (hf : VT.Fresh (bk + 1) w3 (ty k) s) :
    RelV B w bk len ty (k + 1) ((((w3.setCell ⟨bk, k * 4, none⟩ (.int .i64 (ty k).k)).setCell ⟨bk, k * 4 + 1, none⟩ (.int .i64 (ty k).n)).setCell ⟨bk, k * 4 + 2, none⟩ (.string (ty k).s)).setCell ⟨bk, k * 4 + 3, none⟩ s) := by
  obtain ⟨SL, hr, hF, hBk, hbl⟩ := h
  have hr3 := hr.of_block (hb.block _ hr.lt)
  have far : ∀ (b o : Nat) (v : Value), bk + 1 ≤ b → w3.cell? ⟨b, o, none⟩ = some v → ((((w3.setCell ⟨bk, k * 4, none⟩ (.int .i64 (ty k).k)).setCell ⟨bk, k * 4 + 1, none⟩ (.int .i64 (ty k).n)).setCell ⟨bk, k * 4 + 2, none⟩ (.string (ty k).s)).setCell ⟨bk, k * 4 + 3, none⟩ s).cell? ⟨b, o, none⟩ = some v := fun b o v hb c => by
    rw [World.cell?_setCell_far _ _ _ _ (by show bk ≠ b; omega), World.cell?_setCell_far _ _ _ _ (by show bk ≠ b; omega), World.cell?_setCell_far _ _ _ _ (by show bk ≠ b; omega), World.cell?_setCell_far _ _ _ _ (by show bk ≠ b; omega)]
    exact c
  refine ⟨fun i => if i = k then s else SL i, ((((hr3.set (k * 4) _).set (k * 4 + 1) _).set (k * 4 + 2) _).set (k * 4 + 3) _).congr (fun j _ => vcell_set ty SL k s j), fun i hi => ?_, hBk, bS (bS (bS (bS (bT hbl hb) hB _) hB _) hB _) hB _⟩
  show VT.Fresh _ _ _ (if i = k then s else SL i)
  by_cases e : i = k
  · subst e
    rw [if_pos rfl]
    exact hf.keep (Nat.le_refl _) far
  · rw [if_neg e]
    exact ((hF i (by omega)).below hb).keep (Nat.le_refl _) far

theorem infoVal : (Tryd.prog.info? 24).map (fun i => (i.zero, i.size, i.bytes)) = some (some (.agg #[.int .i64 0, .int .i64 0, .string ⟨#[]⟩, .slice none 0 0]), 4, 56) := by kernel_rfl
theorem makeValues (n : Nat) (hn : n ≤ 1000) (w : World) :
    (Instr.makeSlice 22 (.int .i64 (n : Int)) (.int .i64 (n : Int))).run Tryd.prog w = .ok (.slice (some ⟨w.heap.size, 0, none⟩) n n) (w.alloc (.cells (madeCells #[.int .i64 0, .int .i64 0, .string ⟨#[]⟩, .slice none 0 0] (n * 4)) 24)) := by
  obtain ⟨i, hi, hzz⟩ := Option.map_eq_some_iff.1 infoVal
  simp only [Prod.mk.injEq] at hzz
  obtain ⟨hz, hs, hb⟩ := hzz
  have h := run_make (P := Tryd.prog) w 22 24 i _ Tryd.underlying22 hi hz .i64 .i64 n n (by omega) (Int.le_refl _) (by rw [hb]; omega) (by omega)
  rw [hs] at h
  simp only [Int.toNat_natCast] at h
  exact h
theorem relV_start {w : World} {len : Nat} (ty : Nat → VT) : RelV w.heap.size w w.heap.size len ty 0 (w.alloc (.cells (madeCells #[.int .i64 0, .int .i64 0, .string ⟨#[]⟩, .slice none 0 0] (len * 4)) 24)) := by
  refine ⟨fun _ => .nilFunc, ⟨_, blk_alloc_new _ _, size_madeCells _ _, fun j hj => ?_⟩, fun i hi => by omega, Nat.le_refl _, bA (Below.refl _ _) _⟩
  unfold vcell madeCells
  rw [if_neg (by omega)]
  have h4 : j % 4 = 0 ∨ j % 4 = 1 ∨ j % 4 = 2 ∨ j % 4 = 3 := by omega
  rcases h4 with h | h | h | h <;> simp [hj, h]
theorem relV_end {w wr : World} {bk : Nat} {t : VT} (h : RelV w.heap.size w bk t.len t.kid t.len wr) (hl : t.len ≤ 1000) (hk : I64 t.k) (hn : I64 t.n) (hs : t.s.size ≤ 9223372036854775807) : t.Fresh w.heap.size wr (.slice (some ⟨bk, 0, none⟩) t.len t.len) := by
  obtain ⟨SL, hr, hF, hBk, hbl⟩ := h
  refine VT.Fresh.mk' hk hn hs (by omega) rfl (by omega) (by omega) fun h0 => ⟨bk, 0, hBk, rfl, fun i hi => ⟨SL i, ⟨?_, ?_, ?_, ?_⟩, (hF i hi).mono (by omega)⟩⟩
  · have := hr.cell (i := i * 4) (by omega)
    unfold vcell at this
    simpa [hi] using this
  · have := hr.cell (i := i * 4 + 1) (by omega)
    unfold vcell at this
    have e1 : (i * 4 + 1) / 4 = i := by omega
    have e2 : (i * 4 + 1) % 4 = 1 := by omega
    simpa [e1, e2, hi] using this
  · have := hr.cell (i := i * 4 + 2) (by omega)
    unfold vcell at this
    have e1 : (i * 4 + 2) / 4 = i := by omega
    have e2 : (i * 4 + 2) % 4 = 2 := by omega
    simpa [e1, e2, hi] using this
  · have := hr.cell (i := i * 4 + 3) (by omega)
    unfold vcell at this
    have e1 : (i * 4 + 3) / 4 = i := by omega
    have e2 : (i * 4 + 3) % 4 = 3 := by omega
    simpa [e1, e2, hi] using this

set_option maxHeartbeats 1000000 in
theorem eachVV_c (t : VT) (h4 : t.len ≤ 20)
    (ih : ∀ i, i < t.len → ∀ (sl : Value) (w : World), VT.In w (t.kid i) sl → Calls Tryd.prog 20 #[(t.kid i).val sl] w (RetV w (t.kid i)))
    (sl : Value) (w : World) (hin : VT.In w t sl) :
    Calls Tryd.prog 31 #[sl, .func (.func 20) #[] #[]] w (RetVs w t) := by
  obtain ⟨hik, hin0, his, hl, p, cap, rfl, hlc, hcap, hk⟩ := hin.out
  by_cases h0 : t.len = 0
  · have hz : ((t.len : Int) == 0) = true := by simp [h0]
    have hF : t.Fresh w.heap.size w (.slice none t.len 0) := VT.Fresh.mk' hik hin0 his (by omega) rfl (by omega) (by omega) (by omega)
    have HF := Lib.hid hF
    have H0 := Lib.hid h0
    clear hk hin ih hF h0
    go_enter Tryd.func31, Tryd.ntmps31
    go_wp2
    go_ret
    exact ⟨none, 0, by show _ = Ending.returned (.slice none t.len 0); rw [H0.out]; rfl, HF.out, Below.refl _ _⟩
  · obtain ⟨b, o, rfl, hk2⟩ := hk (by omega)
    have HK : Hid (VT.Kids w t b o) := hk2
    have HI := Lib.hid ih
    have HIK := Lib.hid hik
    have HIN := Lib.hid hin0
    have HIS := Lib.hid his
    clear hk hk2 hin ih hik hin0 his
    have hz : ((t.len : Int) == 0) = false := by simp; omega
    have hmk := makeValues t.len (by omega)
    have hst := relV_start (w := w) (len := t.len) t.kid
    have HS := Lib.hid hst
    clear hst h0
    go_enter Tryd.func31, Tryd.ntmps31
    go_wp2
    clear hmk
    go_loopw [16] (fun vk wr => ∃ k : Nat, vk = .int .i64 k ∧ k ≤ t.len ∧ RelV w.heap.size w w.heap.size t.len t.kid k wr) (fun vk _ => t.len - (intOf vk).toNat)
    case atStart => exact ⟨0, rfl, Nat.zero_le _, HS.out⟩
    case round =>
      obtain ⟨k, rfl, hkl, hrel⟩ := hrel
      have hbl := hrel.choose_spec.2.2.2
      have HR := Lib.hid hrel
      clear hrel HS
      by_cases hlt : k < t.len
      · obtain ⟨sl', ⟨c0, c1, c2, c3⟩, hkin⟩ := HK.out.keep hbl k hlt
        obtain ⟨p', cap', rfl⟩ := hkin.slice
        have HN := Lib.hid hkin
        clear hkin
        have hr2 := HI.out k hlt
        have HC := Lib.hid hr2
        clear hr2
        go_wp2_with fail
        refine (HC.out _ _ (inK (bA (Below.refl _ _) _) HN.out)).mono ?_
        rintro e w3 hret
        obtain ⟨p3, cap3, rfl, hfr, hb⟩ := hret
        have B3 := bT (bA (Below.refl _ _) _) hb
        have F3 := hfr.mono (B' := w.heap.size + 1) (by have := HR.out.choose_spec.1.lt; simp; omega)
        have hrow3 := HR.out.choose_spec.1.of_block (B3.block _ HR.out.choose_spec.1.lt)
        have HR3 := Lib.hid hrow3
        have H3 := Lib.hid F3
        have HB3 := Lib.hid B3
        clear hrow3 hfr F3 hb B3
        have hc0 := HR3.out.cell (i := k * 4) (by omega)
        have hc1 := HR3.out.cell (i := k * 4 + 1) (by omega)
        have hc2 := HR3.out.cell (i := k * 4 + 2) (by omega)
        have hc3 := HR3.out.cell (i := k * 4 + 3) (by omega)
        have hf0 := HR3.out.frozen (k * 4)
        have hf1 := HR3.out.frozen (k * 4 + 1)
        have hf2 := HR3.out.frozen (k * 4 + 2)
        have hf3 := HR3.out.frozen (k * 4 + 3)
        go_wp2
        go_roundw
        case rel => exact ⟨k + 1, by go_num, by omega, relV_step ⟨HR.out.choose, HR.out.choose_spec⟩ (Nat.le_refl _) HB3.out H3.out⟩
        case measure => simp [intOf]; omega
      · have e : k = t.len := by omega
        subst e
        go_wp2
        go_ret
        exact ⟨some ⟨w.heap.size, 0, none⟩, t.len, rfl, relV_end HR.out (by omega) HIK.out HIN.out HIS.out, hbl⟩

theorem keepset4 {w : World} {b o g : Nat} {v x y z u : Value} (h : b ≠ g) (hc : w.cell? ⟨b, o, none⟩ = some v) : ((((w.setCell ⟨g, 0, none⟩ x).setCell ⟨g, 1, none⟩ y).setCell ⟨g, 2, none⟩ z).setCell ⟨g, 3, none⟩ u).cell? ⟨b, o, none⟩ = some v := by
  rw [World.cell?_setCell_far _ _ _ _ (fun e => h e.symm), World.cell?_setCell_far _ _ _ _ (fun e => h e.symm), World.cell?_setCell_far _ _ _ _ (fun e => h e.symm), World.cell?_setCell_far _ _ _ _ (fun e => h e.symm)]
  exact hc

set_option maxHeartbeats 4000000 in
theorem copy_step (t : VT) (h4 : t.len ≤ 20) (hs4 : t.s.size ≤ 1000)
    (ih : ∀ i, i < t.len → ∀ (sl : Value) (w : World), VT.In w (t.kid i) sl → Calls Tryd.prog 20 #[(t.kid i).val sl] w (RetV w (t.kid i)))
    (sl : Value) (w : World) (hin : VT.In w t sl) :
    Calls Tryd.prog 20 #[t.val sl] w (RetV w t) := by
  have HN := Lib.hid hin
  have ke := eachVV_c t h4 ih sl
  obtain ⟨p, cap, rfl⟩ := hin.slice
  have KE := Lib.hid ke
  have KC := Lib.hid (clone_v t.s hs4)
  clear hin ih ke
  unfold VT.val
  go_enter Tryd.func20, Tryd.ntmps20
  go_wp2_with fail
  have q0 : ((w.alloc (.cells #[.int .i64 t.k, .int .i64 t.n, .string t.s, .slice p t.len cap] 24)).alloc (.cells #[.int .i64 0, .int .i64 0, .string ⟨#[]⟩, .slice none 0 0] 24)).cell? ⟨w.heap.size, 0, none⟩ = some (.int .i64 t.k) := by go_simp
  have q1 : ((w.alloc (.cells #[.int .i64 t.k, .int .i64 t.n, .string t.s, .slice p t.len cap] 24)).alloc (.cells #[.int .i64 0, .int .i64 0, .string ⟨#[]⟩, .slice none 0 0] 24)).cell? ⟨w.heap.size, 1, none⟩ = some (.int .i64 t.n) := by go_simp
  have q2 : ((w.alloc (.cells #[.int .i64 t.k, .int .i64 t.n, .string t.s, .slice p t.len cap] 24)).alloc (.cells #[.int .i64 0, .int .i64 0, .string ⟨#[]⟩, .slice none 0 0] 24)).cell? ⟨w.heap.size, 2, none⟩ = some (.string t.s) := by go_simp
  have q3 : ((w.alloc (.cells #[.int .i64 t.k, .int .i64 t.n, .string t.s, .slice p t.len cap] 24)).alloc (.cells #[.int .i64 0, .int .i64 0, .string ⟨#[]⟩, .slice none 0 0] 24)).cell? ⟨w.heap.size, 3, none⟩ = some (.slice p t.len cap) := by go_simp
  have r0 : ((w.alloc (.cells #[.int .i64 t.k, .int .i64 t.n, .string t.s, .slice p t.len cap] 24)).alloc (.cells #[.int .i64 0, .int .i64 0, .string ⟨#[]⟩, .slice none 0 0] 24)).cell? ⟨w.heap.size + 1, 0, none⟩ = some (.int .i64 0) := by go_simp
  have r1 : ((w.alloc (.cells #[.int .i64 t.k, .int .i64 t.n, .string t.s, .slice p t.len cap] 24)).alloc (.cells #[.int .i64 0, .int .i64 0, .string ⟨#[]⟩, .slice none 0 0] 24)).cell? ⟨w.heap.size + 1, 1, none⟩ = some (.int .i64 0) := by go_simp
  have r2 : ((w.alloc (.cells #[.int .i64 t.k, .int .i64 t.n, .string t.s, .slice p t.len cap] 24)).alloc (.cells #[.int .i64 0, .int .i64 0, .string ⟨#[]⟩, .slice none 0 0] 24)).cell? ⟨w.heap.size + 1, 2, none⟩ = some (.string ⟨#[]⟩) := by go_simp
  have r3 : ((w.alloc (.cells #[.int .i64 t.k, .int .i64 t.n, .string t.s, .slice p t.len cap] 24)).alloc (.cells #[.int .i64 0, .int .i64 0, .string ⟨#[]⟩, .slice none 0 0] 24)).cell? ⟨w.heap.size + 1, 3, none⟩ = some (.slice none 0 0) := by go_simp
  have f0 : ((w.alloc (.cells #[.int .i64 t.k, .int .i64 t.n, .string t.s, .slice p t.len cap] 24)).alloc (.cells #[.int .i64 0, .int .i64 0, .string ⟨#[]⟩, .slice none 0 0] 24)).frozen? ⟨w.heap.size + 1, 0, none⟩ = false := by go_simp
  have f1 : ((w.alloc (.cells #[.int .i64 t.k, .int .i64 t.n, .string t.s, .slice p t.len cap] 24)).alloc (.cells #[.int .i64 0, .int .i64 0, .string ⟨#[]⟩, .slice none 0 0] 24)).frozen? ⟨w.heap.size + 1, 1, none⟩ = false := by go_simp
  have f2 : ((w.alloc (.cells #[.int .i64 t.k, .int .i64 t.n, .string t.s, .slice p t.len cap] 24)).alloc (.cells #[.int .i64 0, .int .i64 0, .string ⟨#[]⟩, .slice none 0 0] 24)).frozen? ⟨w.heap.size + 1, 2, none⟩ = false := by go_simp
  have f3 : ((w.alloc (.cells #[.int .i64 t.k, .int .i64 t.n, .string t.s, .slice p t.len cap] 24)).alloc (.cells #[.int .i64 0, .int .i64 0, .string ⟨#[]⟩, .slice none 0 0] 24)).frozen? ⟨w.heap.size + 1, 3, none⟩ = false := by go_simp
  have WB : Below w.heap.size w ((w.alloc (.cells #[.int .i64 t.k, .int .i64 t.n, .string t.s, .slice p t.len cap] 24)).alloc (.cells #[.int .i64 0, .int .i64 0, .string ⟨#[]⟩, .slice none 0 0] 24)) := bA (bA (Below.refl _ _) _) _
  generalize ((w.alloc (.cells #[.int .i64 t.k, .int .i64 t.n, .string t.s, .slice p t.len cap] 24)).alloc (.cells #[.int .i64 0, .int .i64 0, .string ⟨#[]⟩, .slice none 0 0] 24)) = w0 at *
  have R0 := Lib.hid r0
  have R1 := Lib.hid r1
  have R2 := Lib.hid r2
  have R3 := Lib.hid r3
  have F0 := Lib.hid f0
  have F1 := Lib.hid f1
  have F2 := Lib.hid f2
  have F3 := Lib.hid f3
  clear r0 r1 r2 r3 f0 f1 f2 f3
  go_region_held3 (fun w' => w'.cell? ⟨w.heap.size, 0, none⟩ = some (.int .i64 t.k) ∧ w'.cell? ⟨w.heap.size, 1, none⟩ = some (.int .i64 t.n) ∧ w'.cell? ⟨w.heap.size, 2, none⟩ = some (.string t.s) ∧ w'.cell? ⟨w.heap.size, 3, none⟩ = some (.slice p t.len cap) ∧ Below w.heap.size w w')
    (first | exact ⟨q0, q1, q2, q3, Below.drew WB⟩ | (go_split_ands; exact ⟨kc hb (by assumption), kc hb (by assumption), kc hb (by assumption), kc hb (by assumption), bT (by assumption) hb⟩) | (go_split_ands; exact ⟨keepset4 (by omega) (by assumption), keepset4 (by omega) (by assumption), keepset4 (by omega) (by assumption), keepset4 (by omega) (by assumption), bS (bS (bS (bS (by assumption) (by simp) _) (by simp) _) (by simp) _) (by simp) _⟩) | go_keep)
    (first
      | (go_at_call 30; refine (KC.out _).mono ?_; rintro e w2 ⟨rfl, hb⟩; have Q2 : w0.heap.size ≤ w2.heap.size := hb.size)
      | (go_at_call 31; refine (KE.out _ (inK (by repeat (first | with_reducible assumption | with_reducible exact Below.refl _ _ | with_reducible refine bN ?_ _ | with_reducible refine Below.drew ?_ | with_reducible refine bA ?_ _ | with_reducible refine bS ?_ (by simp) _ | with_reducible refine bT ?_ (by assumption))) HN.out)).mono ?_; rintro e w3 hret; obtain ⟨p3, cap3, rfl, hfr, hb⟩ := hret; have Q : Below w0.heap.size w0 w3 := (by repeat (first | with_reducible assumption | with_reducible exact Below.refl _ _ | with_reducible refine bN ?_ _ | with_reducible refine Below.drew ?_ | with_reducible refine bA ?_ _ | with_reducible refine bS ?_ (by simp) _ | with_reducible refine bT ?_ (by assumption))); have Z := hb.size; have r0 := kc Q R0.out; have r1 := kc Q R1.out; have r2 := kc Q R2.out; have r3 := kc Q R3.out; have f0 := kf Q R0.out F0.out; have f1 := kf Q R1.out F1.out; have f2 := kf Q R2.out F2.out; have f3 := kf Q R3.out F3.out))
  all_goals
    have H0 := World.block_lt_of_cell? w0 _ R0.out
    have HF : t.Fresh w.heap.size ((((w3.setCell ⟨w.heap.size + 1, 0, none⟩ (.int .i64 t.k)).setCell ⟨w.heap.size + 1, 1, none⟩ (.int .i64 t.n)).setCell ⟨w.heap.size + 1, 2, none⟩ (.string t.s)).setCell ⟨w.heap.size + 1, 3, none⟩ (.slice p3 t.len cap3)) (.slice p3 t.len cap3) :=
      hfr.keep (by have := WB.size; omega) fun b o v hb c => keepset4 (by have h2 : w.heap.size + 1 < w0.heap.size := H0; omega) c
    have HB : Below w.heap.size w ((((w3.setCell ⟨w.heap.size + 1, 0, none⟩ (.int .i64 t.k)).setCell ⟨w.heap.size + 1, 1, none⟩ (.int .i64 t.n)).setCell ⟨w.heap.size + 1, 2, none⟩ (.string t.s)).setCell ⟨w.heap.size + 1, 3, none⟩ (.slice p3 t.len cap3)) := bS (bS (bS (bS (bT WB Q) (by simp) _) (by simp) _) (by simp) _) (by simp) _
    have HF2 := Lib.hid HF
    have HB2 := Lib.hid HB
    clear hfr HF HB hb Q WB q0 q1 q2 q3 Q2 Z
    go_wp2
    exact bodyPost_ret (v := .agg #[.int .i64 t.k, .int .i64 t.n, .string t.s, .slice p3 t.len cap3]) (by simp [results, Tryd.results20, go_sem, r0, r1, r2, r3]) rfl ⟨p3, cap3, rfl, HF2.out, HB2.out⟩

theorem copy_c : ∀ (t : VT), t.Sm → ∀ (sl : Value) (w : World), VT.In w t sl → Calls Tryd.prog 20 #[t.val sl] w (RetV w t) := by
  intro t
  induction t using VT.ind with
  | h t ih =>
    intro hs sl w hin
    obtain ⟨h1, h2, h3⟩ := hs.out
    exact copy_step t h2 h1 (fun i hi sl w hin => ih i hi (h3 i hi) sl w hin) sl w hin
end Go.Proofs.YtbgpipdbnjoeeaaDoor
