/-
  The contracts of package value's each from values to types over this seat's translation: a new list of types, in new memory. Conditions: those that each theorem states.
-/
import Derived.Test.YtbgpipdbnjoeeaaDoorTextV
import Derived.Test.YtbgpipdbnjoeeaaDoorTTextA
namespace Go.Proofs.YtbgpipdbnjoeeaaDoor
open Go.RowKit Go.ChangeShapes Go.WideShapes Go.ChangeAt Go.Deep
attribute [local go_sem ↓] Go.wp_at_zero Go.wp_at_succ

namespace TT
/-- The tree lies in blocks from B on. -/
def Fresh (B : Nat) (w : World) : TT → Value → Prop
  | .mk k len kids, sl => I64 k ∧ len ≤ 9223372036854775807 ∧ ∃ (p : Option Addr) (cap : Nat), sl = .slice p len cap ∧ len ≤ cap ∧ cap ≤ 9223372036854775807 ∧
      (0 < len → ∃ b o, B ≤ b ∧ p = some ⟨b, o, none⟩ ∧ ∀ i (h : i < len), ∃ sl', w.cell? ⟨b, o + i * 2, none⟩ = some (.int .i64 (kids ⟨i, h⟩).k) ∧ w.cell? ⟨b, o + i * 2 + 1, none⟩ = some sl' ∧ Fresh B w (kids ⟨i, h⟩) sl')
theorem Fresh.into {B : Nat} {w : World} : ∀ {t : TT} {sl : Value}, Fresh B w t sl → In w t sl := by
  intro t
  induction t with
  | mk k len kids ih =>
    rintro sl ⟨h1, h4, p, cap, hsl, hcap, hsz, hi⟩
    refine ⟨h1, h4, p, cap, hsl, hcap, hsz, fun hl => ?_⟩
    obtain ⟨b, o, _, hp, hi⟩ := hi hl
    refine ⟨b, o, hp, fun i hil => ?_⟩
    obtain ⟨sl', c0, c3, hk⟩ := hi i hil
    exact ⟨sl', c0, c3, ih _ hk⟩
theorem Fresh.keep {B B' : Nat} {w w' : World} (hB : B' ≤ B) (hc : ∀ b o v, B ≤ b → w.cell? ⟨b, o, none⟩ = some v → w'.cell? ⟨b, o, none⟩ = some v) : ∀ {t : TT} {sl : Value}, Fresh B w t sl → Fresh B' w' t sl := by
  intro t
  induction t with
  | mk k len kids ih =>
    rintro sl ⟨h1, h4, p, cap, hsl, hcap, hsz, hi⟩
    refine ⟨h1, h4, p, cap, hsl, hcap, hsz, fun hl => ?_⟩
    obtain ⟨b, o, hb, hp, hi⟩ := hi hl
    refine ⟨b, o, by omega, hp, fun i hil => ?_⟩
    obtain ⟨sl', c0, c3, hk⟩ := hi i hil
    exact ⟨sl', hc _ _ _ hb c0, hc _ _ _ hb c3, ih _ hk⟩
theorem Fresh.below {B : Nat} {w w' : World} (hb : Below w.heap.size w w') {t : TT} {sl : Value} (h : Fresh B w t sl) : Fresh B w' t sl := h.keep (Nat.le_refl _) fun _ _ _ _ c => kc hb c
theorem Fresh.mono {B B' : Nat} {w : World} (hB : B' ≤ B) {t : TT} {sl : Value} (h : Fresh B w t sl) : Fresh B' w t sl := h.keep hB fun _ _ _ _ c => c
theorem Fresh.slice {B : Nat} {w : World} {t : TT} {sl : Value} (h : Fresh B w t sl) : ∃ (p : Option Addr) (cap : Nat), sl = .slice p t.len cap := h.into.slice
theorem mk_kid {k : Int} {l : Nat} {f : Nat → TT} {i : Nat} (h : i < l) : (TT.mk k l (fun i => f i.val)).kid i = f i := kid_mk h
end TT

/-- A new type, by value. -/
def RetT (w : World) (T : TT) (e : Ending) (w' : World) : Prop :=
  ∃ (p : Option Addr) (cap : Nat), e = .returned (T.val (.slice p T.len cap)) ∧ T.Fresh w.heap.size w' (.slice p T.len cap) ∧ Below w.heap.size w w'
/-- A new list of types. -/
def RetTs (w : World) (T : TT) (e : Ending) (w' : World) : Prop :=
  ∃ (p : Option Addr) (cap : Nat), e = .returned (.slice p T.len cap) ∧ T.Fresh w.heap.size w' (.slice p T.len cap) ∧ Below w.heap.size w w'

/-- The cells of a list of types of which the first k are laid. -/
def tcell (ty : Nat → TT) (SL : Nat → Value) (k : Nat) : Nat → Value := fun j => if j / 2 < k then (if j % 2 = 0 then .int .i64 (ty (j / 2)).k else SL (j / 2)) else (if j % 2 = 0 then .int .i64 0 else .slice none 0 0)
theorem tcell_set (ty : Nat → TT) (SL : Nat → Value) (k : Nat) (s : Value) (j : Nat) :
    (if j = k * 2 + 1 then s else if j = k * 2 then .int .i64 (ty k).k else tcell ty SL k j) = tcell ty (fun i => if i = k then s else SL i) (k + 1) j := by
  unfold tcell
  by_cases h1 : j = k * 2 + 1
  · subst h1
    have e1 : (k * 2 + 1) / 2 = k := by omega
    have e2 : (k * 2 + 1) % 2 = 1 := by omega
    simp [e1, e2]
  · by_cases h2 : j = k * 2
    · subst h2
      simp
    · rw [if_neg h1, if_neg h2]
      by_cases h3 : j / 2 < k
      · rw [if_pos h3, if_pos (by omega : j / 2 < k + 1)]
        by_cases h4 : j % 2 = 0
        · rw [if_pos h4, if_pos h4]
        · rw [if_neg h4, if_neg h4]
          show SL (j / 2) = if j / 2 = k then s else SL (j / 2)
          rw [if_neg (by omega)]
      · rw [if_neg h3, if_neg (by omega : ¬ j / 2 < k + 1)]
/-- Where k items are done. -/
def RelT (B : Nat) (w : World) (bk len : Nat) (ty : Nat → TT) (k : Nat) (wr : World) : Prop :=
  ∃ SL : Nat → Value, wr.rowIs bk 40 (len * 2) (tcell ty SL k) ∧ (∀ i, i < k → TT.Fresh (bk + 1) wr (ty i) (SL i)) ∧ B ≤ bk ∧ Below w.heap.size w wr
theorem relT_step {B : Nat} {w w1 : World} {bk len : Nat} {ty : Nat → TT} {k : Nat} (h : RelT B w bk len ty k w1) (hk : k < len) (hB : w.heap.size ≤ bk) {w3 : World} {s : Value} (hb : Below w1.heap.size w1 w3) (hf : TT.Fresh (bk + 1) w3 (ty k) s) :
    RelT B w bk len ty (k + 1) ((w3.setCell ⟨bk, k * 2, none⟩ (.int .i64 (ty k).k)).setCell ⟨bk, k * 2 + 1, none⟩ s) := by
  obtain ⟨SL, hr, hF, hBk, hbl⟩ := h
  have hr3 := hr.of_block (hb.block _ hr.lt)
  have far : ∀ (b o : Nat) (v : Value), bk + 1 ≤ b → w3.cell? ⟨b, o, none⟩ = some v → ((w3.setCell ⟨bk, k * 2, none⟩ (.int .i64 (ty k).k)).setCell ⟨bk, k * 2 + 1, none⟩ s).cell? ⟨b, o, none⟩ = some v := fun b o v hb c => by
    rw [World.cell?_setCell_far _ _ _ _ (by show bk ≠ b; omega), World.cell?_setCell_far _ _ _ _ (by show bk ≠ b; omega)]
    exact c
  refine ⟨fun i => if i = k then s else SL i, ((hr3.set (k * 2) _).set (k * 2 + 1) _).congr (fun j _ => tcell_set ty SL k s j), fun i hi => ?_, hBk, bS (bS (bT hbl hb) hB _) hB _⟩
  show TT.Fresh _ _ _ (if i = k then s else SL i)
  by_cases e : i = k
  · subst e
    rw [if_pos rfl]
    exact hf.keep (Nat.le_refl _) far
  · rw [if_neg e]
    exact ((hF i (by omega)).below hb).keep (Nat.le_refl _) far

theorem infoType : (Tryd.prog.info? 40).map (fun i => (i.zero, i.size, i.bytes)) = some (some (.agg #[.int .i64 0, .slice none 0 0]), 2, 32) := by kernel_rfl
theorem makeTypes (n : Nat) (hn : n ≤ 1000) (w : World) :
    (Instr.makeSlice 38 (.int .i64 (n : Int)) (.int .i64 (n : Int))).run Tryd.prog w = .ok (.slice (some ⟨w.heap.size, 0, none⟩) n n) (w.alloc (.cells (madeCells #[.int .i64 0, .slice none 0 0] (n * 2)) 40)) := by
  obtain ⟨i, hi, hzz⟩ := Option.map_eq_some_iff.1 infoType
  simp only [Prod.mk.injEq] at hzz
  obtain ⟨hz, hs, hb⟩ := hzz
  have h := run_make (P := Tryd.prog) w 38 40 i _ Tryd.underlying38 hi hz .i64 .i64 n n (by omega) (Int.le_refl _) (by rw [hb]; omega) (by omega)
  rw [hs] at h
  simp only [Int.toNat_natCast] at h
  exact h
theorem relT_start {w : World} {len : Nat} (ty : Nat → TT) : RelT w.heap.size w w.heap.size len ty 0 (w.alloc (.cells (madeCells #[.int .i64 0, .slice none 0 0] (len * 2)) 40)) := by
  refine ⟨fun _ => .nilFunc, ⟨_, blk_alloc_new _ _, size_madeCells _ _, fun j hj => ?_⟩, fun i hi => by omega, Nat.le_refl _, bA (Below.refl _ _) _⟩
  unfold tcell madeCells
  rw [if_neg (by omega)]
  rcases Nat.mod_two_eq_zero_or_one j with h | h <;> simp [hj, h]
theorem relT_end {w wr : World} {bk len : Nat} {ty : Nat → TT} (h : RelT w.heap.size w bk len ty len wr) (hl : len ≤ 1000) (k : Int) (hk : I64 k) : TT.Fresh w.heap.size wr (.mk k len (fun i => ty i.val)) (.slice (some ⟨bk, 0, none⟩) len len) := by
  obtain ⟨SL, hr, hF, hBk, hbl⟩ := h
  refine ⟨hk, by omega, _, _, rfl, by omega, by omega, fun h0 => ⟨bk, 0, hBk, rfl, fun i hi => ⟨SL i, ?_, ?_, (hF i hi).mono (by omega)⟩⟩⟩
  · have := hr.cell (i := i * 2) (by omega)
    unfold tcell at this
    simpa [hi] using this
  · have := hr.cell (i := i * 2 + 1) (by omega)
    unfold tcell at this
    have e1 : (i * 2 + 1) / 2 = i := by omega
    have e2 : (i * 2 + 1) % 2 = 1 := by omega
    simpa [e1, e2, hi] using this

set_option maxHeartbeats 1000000 in
theorem eachVT_c (k0 : Int) (hk0 : I64 k0) (t : VT) (h4 : t.len ≤ 20) (ty : Nat → TT)
    (ih : ∀ i, i < t.len → ∀ (sl : Value) (w : World), VT.In w (t.kid i) sl → Calls Tryd.prog 27 #[(t.kid i).val sl] w (RetT w (ty i)))
    (sl : Value) (w : World) (hin : VT.In w t sl) :
    Calls Tryd.prog 39 #[sl, .func (.func 27) #[] #[]] w (RetTs w (.mk k0 t.len (fun i => ty i.val))) := by
  obtain ⟨_, _, _, hl, p, cap, rfl, hlc, hcap, hk⟩ := hin.out
  by_cases h0 : t.len = 0
  · have hz : ((t.len : Int) == 0) = true := by simp [h0]
    have hF : TT.Fresh w.heap.size w (.mk k0 t.len (fun i => ty i.val)) (.slice none t.len 0) := ⟨hk0, by omega, none, 0, rfl, by omega, by omega, by omega⟩
    have HF := Lib.hid hF
    have H0 := Lib.hid h0
    clear hk hin ih hF h0
    go_enter Tryd.func39, Tryd.ntmps39
    go_wp2
    go_ret
    exact ⟨none, 0, by show _ = Ending.returned (.slice none t.len 0); rw [H0.out]; rfl, HF.out, Below.refl _ _⟩
  · obtain ⟨b, o, rfl, hk2⟩ := hk (by omega)
    have HK : Hid (VT.Kids w t b o) := hk2
    have HI := Lib.hid ih
    clear hk hk2 hin ih
    have hz : ((t.len : Int) == 0) = false := by simp; omega
    have hmk := makeTypes t.len (by omega)
    have hst := relT_start (w := w) (len := t.len) ty
    have HS := Lib.hid hst
    clear hst h0
    go_enter Tryd.func39, Tryd.ntmps39
    go_wp2
    clear hmk
    go_loopw [16] (fun vk wr => ∃ k : Nat, vk = .int .i64 k ∧ k ≤ t.len ∧ RelT w.heap.size w w.heap.size t.len ty k wr) (fun vk _ => t.len - (intOf vk).toNat)
    case atStart => exact ⟨0, rfl, Nat.zero_le _, HS.out⟩
    case round =>
      obtain ⟨k, rfl, hkl, hrel⟩ := hrel
      have hbl := hrel.choose_spec.2.2.2
      have HR := Lib.hid hrel
      clear hrel HS
      by_cases hlt : k < t.len
      · obtain ⟨sl', ⟨c0, c1, c2, c3⟩, hkin⟩ := HK.out.keep hbl k hlt
        obtain ⟨p', cap', rfl⟩ := hkin.slice
        have HN := Lib.hid hkin
        clear hkin
        have hr2 := HI.out k hlt
        have HC := Lib.hid hr2
        clear hr2
        go_wp2_with fail
        refine (HC.out _ _ (inK (bA (Below.refl _ _) _) HN.out)).mono ?_
        rintro e w3 hret
        obtain ⟨p3, cap3, rfl, hfr, hb⟩ := hret
        have B3 := bT (bA (Below.refl _ _) _) hb
        have F3 := hfr.mono (B' := w.heap.size + 1) (by have := HR.out.choose_spec.1.lt; simp; omega)
        have hrow3 := HR.out.choose_spec.1.of_block (B3.block _ HR.out.choose_spec.1.lt)
        have HR3 := Lib.hid hrow3
        have H3 := Lib.hid F3
        have HB3 := Lib.hid B3
        clear hrow3 hfr F3 hb B3
        have hc1 := HR3.out.cell (i := k * 2) (by omega)
        have hc2 := HR3.out.cell (i := k * 2 + 1) (by omega)
        have hf1 := HR3.out.frozen (k * 2)
        have hf2 := HR3.out.frozen (k * 2 + 1)
        go_wp2
        go_roundw
        case rel => exact ⟨k + 1, by go_num, by omega, relT_step ⟨HR.out.choose, HR.out.choose_spec⟩ hlt (Nat.le_refl _) HB3.out H3.out⟩
        case measure => simp [intOf]; omega
      · have e : k = t.len := by omega
        subst e
        go_wp2
        go_ret
        exact ⟨some ⟨w.heap.size, 0, none⟩, t.len, rfl, relT_end HR.out (by omega) k0 hk0, hbl⟩
end Go.Proofs.YtbgpipdbnjoeeaaDoor
