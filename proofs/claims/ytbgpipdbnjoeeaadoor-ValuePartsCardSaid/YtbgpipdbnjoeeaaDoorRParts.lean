/-
  The contract of the given package gavotteref02's Parts over this seat's translation: a right value's parts, in their order. Conditions: those that each theorem states.
-/
import Derived.Test.YtbgpipdbnjoeeaaDoorRTypeOf
import Derived.Test.YtbgpipdbnjoeeaaDoorCopy
namespace Go.Proofs.YtbgpipdbnjoeeaaDoor
open Go.RowKit Go.ChangeShapes Go.WideShapes Go.ChangeAt Go.Deep
attribute [local go_sem ↓] Go.wp_at_zero Go.wp_at_succ

/-- The first k lists, one behind the other. -/
def partsTo (f : Nat → List VT) : Nat → List VT
  | 0 => []
  | k + 1 => partsTo f k ++ f k
theorem partsTo_len {f : Nat → List VT} {m : Nat} : ∀ {k : Nat}, (∀ i, i < k → (f i).length ≤ m) → (partsTo f k).length ≤ k * m
  | 0, _ => by simp [partsTo]
  | k + 1, h => by
    have h1 := partsTo_len (k := k) fun i hi => h i (by omega)
    have h2 := h k (by omega)
    rw [partsTo, List.length_append, Nat.succ_mul]
    omega
/-- A value's parts, to the depth m. -/
def VT.partsM : Nat → VT → List VT
  | 0, t => [t]
  | m + 1, t => t :: partsTo (fun i => VT.partsM m (t.kid i)) t.len
/-- How many parts a value of so many levels may have. -/
def most : Nat → Nat
  | 0 => 1
  | m + 1 => 1 + 4 * most m
theorem partsM_one (m : Nat) (t : VT) : 1 ≤ (VT.partsM m t).length := by
  cases m <;> simp [VT.partsM]
theorem partsM_le : ∀ (m : Nat) (t : VT), VT.rightB m t = true → (VT.partsM m t).length ≤ most m
  | 0, t, _ => by simp [VT.partsM, most]
  | m + 1, t, h => by
    obtain ⟨h4, hk⟩ := VT.rightB_kid h
    have h1 := partsTo_len (f := fun i => VT.partsM m (t.kid i)) (m := most m) (k := t.len) fun i hi => partsM_le m _ (hk i hi)
    have h2 : t.len * most m ≤ 4 * most m := Nat.mul_le_mul_right _ h4
    rw [VT.partsM, most, List.length_cons]
    omega
/-- The cells of values. -/
def cells4 : List (VT × Value) → List Value
  | [] => []
  | x :: l => .int .i64 x.1.k :: .int .i64 x.1.n :: .string x.1.s :: x.2 :: cells4 l
theorem cells4_len : ∀ l, (cells4 l).length = l.length * 4
  | [] => rfl
  | x :: l => by rw [cells4]; simp [cells4_len l]; omega
theorem cells4_app : ∀ l m, cells4 (l ++ m) = cells4 l ++ cells4 m
  | [], m => rfl
  | x :: l, m => by rw [List.cons_append, cells4, cells4, cells4_app l m]; rfl
theorem cells4_one {w : World} : ∀ {l : List (VT × Value)}, (∀ x ∈ l, VT.In w x.1 x.2) → ∀ u ∈ cells4 l, u.oneCell' = true
  | [], _, u, hu => by simp [cells4] at hu
  | x :: l, h, u, hu => by
    obtain ⟨p, cap, e⟩ := (h x (by simp)).slice
    rw [cells4, e] at hu
    simp only [List.mem_cons] at hu
    rcases hu with rfl | rfl | rfl | rfl | hu
    · rfl
    · rfl
    · rfl
    · rfl
    · exact cells4_one (fun y hy => h y (by simp [hy])) u hu
/-- A row of the call's own holds the parts L; what they lead to lay in w0. -/
def RowP (w0 : World) (B : Nat) (L : List VT) (ov : Value) (w : World) : Prop :=
  ∃ (g cap : Nat) (ps : List (VT × Value)), ov = .slice (some ⟨g, 0, none⟩) ps.length cap ∧ ps.map Prod.fst = L ∧ (∀ x ∈ ps, VT.In w0 x.1 x.2) ∧ w.ownsRow B 24 4 ov ps.length (cells4 ps)
theorem RowP.below {w0 w w' : World} {B : Nat} {L : List VT} {ov : Value} (h : RowP w0 B L ov w) (hb : Below w.heap.size w w') : RowP w0 B L ov w' := by
  obtain ⟨g, cap, ps, e, h1, h2, h3⟩ := h
  exact ⟨g, cap, ps, e, h1, h2, ownsRow_stays h3 hb⟩
theorem news_own {w : World} {B g n cap : Nat} {xs : List Value} (h : w.ownsRow B 24 4 (.slice (some ⟨g, 0, none⟩) n cap) n xs) : ∀ j u, xs[j]? = some u → w.cell? ((⟨g, 0, none⟩ : Addr).add j) = some u := fun j u hu => by
  have hadd : (⟨g, 0, none⟩ : Addr).add j = ⟨g, j, none⟩ := by unfold Addr.add; split <;> simp_all
  rw [hadd, h.cellAt j (by have := (List.getElem?_eq_some_iff.1 hu).1; have := h.1; omega)]
  exact hu
theorem own_base {w : World} {B B' g n cap : Nat} {xs : List Value} (h : w.ownsRow B 24 4 (.slice (some ⟨g, 0, none⟩) n cap) n xs) (hb : B' ≤ B) : w.ownsRow B' 24 4 (.slice (some ⟨g, 0, none⟩) n cap) n xs := by
  refine ⟨h.1, ?_⟩
  rcases h.2 with h2 | ⟨g', cap', cur, e, hB, rest⟩
  · exact .inl h2
  · exact .inr ⟨g', cap', cur, e, by omega, rest⟩
def RetP (w0 w : World) (L : List VT) (e : Ending) (w' : World) : Prop := ∃ ov, e = .returned ov ∧ RowP w0 w.heap.size L ov w' ∧ Below w.heap.size w w'

set_option maxRecDepth 100000 in
set_option maxHeartbeats 4000000 in
theorem rparts_step (t : VT) (h4 : t.len ≤ 4) (f : Nat → List VT) (hf : ∀ i, i < t.len → 1 ≤ (f i).length ∧ (f i).length ≤ 21) (w0 : World)
    (ih : ∀ i, i < t.len → ∀ (sl : Value) (w : World), VT.In w0 (t.kid i) sl → Below w0.heap.size w0 w → Calls Tryd.prog 7 #[(t.kid i).val sl] w (RetP w0 w (f i)))
    (sl : Value) (w : World) (hin : VT.In w0 t sl) (hb0 : Below w0.heap.size w0 w) :
    Calls Tryd.prog 7 #[t.val sl] w (RetP w0 w (t :: partsTo f t.len)) := by
  have hsl := hin.slice
  obtain ⟨_, _, _, hl, p, cap, rfl, hlc, hcap, hk⟩ := hin.out
  have HK := Lib.hid hk
  have HI := Lib.hid ih
  have HF := Lib.hid hf
  have HIN := Lib.hid hin
  obtain ⟨i0, hi0, hz0, hz1, hz2⟩ := info_parts infoVal
  clear hk ih hin hf hsl
  unfold VT.val
  go_enter Tryd.func7, Tryd.ntmps7
  go_wp2
  have hrow := World.ownsRow_lit (base := w.heap.size + 1) (e := 24) (size := 4) (w.alloc (.cells #[.int .i64 t.k, .int .i64 t.n, .string t.s, .slice p t.len cap] 24)) #[.int .i64 t.k, .int .i64 t.n, .string t.s, .slice p t.len cap] 1 (by simp) (by unfold maxLen; omega) rfl
  have hrp : RowP w0 (w.heap.size + 1) (t :: partsTo f 0) (.slice (some ⟨w.heap.size + 1, 0, none⟩) 1 1) ((w.alloc (.cells #[.int .i64 t.k, .int .i64 t.n, .string t.s, .slice p t.len cap] 24)).alloc (.cells #[.int .i64 t.k, .int .i64 t.n, .string t.s, .slice p t.len cap] 24)) :=
    ⟨w.heap.size + 1, 1, [(t, .slice p t.len cap)], rfl, rfl, fun x hx => by rw [List.mem_singleton] at hx; subst hx; exact HIN.out, by rw [World.size_alloc] at hrow; exact hrow⟩
  have HRP := Lib.hid hrp
  have q3 : ((w.alloc (.cells #[.int .i64 t.k, .int .i64 t.n, .string t.s, .slice p t.len cap] 24)).alloc (.cells #[.int .i64 t.k, .int .i64 t.n, .string t.s, .slice p t.len cap] 24)).cell? ⟨w.heap.size, 3, none⟩ = some (.slice p t.len cap) := by go_simp
  have WB : Below w.heap.size w ((w.alloc (.cells #[.int .i64 t.k, .int .i64 t.n, .string t.s, .slice p t.len cap] 24)).alloc (.cells #[.int .i64 t.k, .int .i64 t.n, .string t.s, .slice p t.len cap] 24)) := bA (bA (Below.refl _ _) _) _
  clear hrow hrp
  generalize ((w.alloc (.cells #[.int .i64 t.k, .int .i64 t.n, .string t.s, .slice p t.len cap] 24)).alloc (.cells #[.int .i64 t.k, .int .i64 t.n, .string t.s, .slice p t.len cap] 24)) = w1 at *
  go_loopw [3, 4] (fun vo vk wr => ∃ k : Nat, vk = .int .i64 k ∧ k ≤ t.len ∧ RowP w0 (w.heap.size + 1) (t :: partsTo f k) vo wr ∧ wr.cell? ⟨w.heap.size, 3, none⟩ = some (.slice p t.len cap) ∧ Below w.heap.size w wr) (fun _ vk _ => t.len - (intOf vk).toNat)
  case atStart => exact ⟨0, rfl, Nat.zero_le _, HRP.out, q3, WB⟩
  case round =>
    obtain ⟨k, rfl, hkl, hr, hq, hbl⟩ := hrel
    clear q3 WB
    obtain ⟨g, cg, ps, rfl, hps, hpin, hown⟩ := hr
    have HPS := Lib.hid hps
    have HPI := Lib.hid hpin
    have HO := Lib.hid hown
    have hgl := hown.lt g rfl
    have hplen : ps.length = (partsTo f k).length + 1 := by rw [← List.length_map (f := Prod.fst), hps]; rfl
    have HPL := Lib.hid hplen
    have hto := partsTo_len (f := f) (m := 21) (k := k) fun i hi => (HF.out i (by omega)).2
    have HTO := Lib.hid hto
    have HGL := Lib.hid hgl
    clear hps hpin hown hplen hto hgl
    by_cases hlt : k < t.len
    · obtain ⟨b, o, rfl, kk⟩ := HK.out (by omega)
      obtain ⟨sl', ⟨c0, c1, c2, c3⟩, hkin⟩ := kk k hlt
      obtain ⟨p', cap', rfl⟩ := hkin.slice
      have hbw : b < w0.heap.size := World.block_lt_of_cell? w0 _ c0
      have HB2 := bT hb0 hbl
      have HC := Lib.hid (HI.out k hlt _ _ hkin HB2)
      have HFK := Lib.hid (HF.out k hlt)
      clear hkin kk
      replace c0 := kc HB2 c0
      replace c1 := kc HB2 c1
      replace c2 := kc HB2 c2
      replace c3 := kc HB2 c3
      go_wp2_with fail
      refine (HC.out).mono ?_
      rintro e w3 ⟨ov3, rfl, ⟨g3, cap3, ps3, rfl, hps3, hpin3, hown3⟩, hb⟩
      have HO3 := ownsRow_stays HO.out hb
      have HP3 := Lib.hid (show ps3.length = (f k).length by rw [← List.length_map (f := Prod.fst), hps3])
      have hq3 := kc hb hq
      have hm1 : 0 < ps3.length := by have := HP3.out; have := HFK.out; omega
      have hm2 : ps.length + ps3.length ≤ 200 := by
        have h1 := HP3.out
        have h2 := HFK.out
        have h3 := HPL.out
        have h5 := HTO.out
        have h6 : k * 21 ≤ 4 * 21 := Nat.mul_le_mul_right _ (by omega)
        omega
      have hsz : w.heap.size + 1 ≤ w3.heap.size := by
        have h1 : w.heap.size < wr.heap.size := World.block_lt_of_cell? wr _ hq
        have h2 := hb.size
        omega
      have HPS3 := Lib.hid hps3
      have HPI3 := Lib.hid hpin3
      have HOW3 := Lib.hid hown3
      have HO4 := Lib.hid HO3
      clear hps3 hpin3 hown3 HO3
      go_wp2_with (at_builtin; go_must (refine wpList_append_lies _ rfl _ _ _ rfl (w.heap.size + 1) 24 i0 _ 4 56 Tryd.underlying22 hi0 hz0 hz1 hz2 rfl (by omega) _ ps.length (cells4 ps) (by rfl) HO4.out ⟨g3, 0, none⟩ ps3.length cap3 (cells4 ps3) (by rfl) (cells4_len ps3) (news_own HOW3.out) (cells4_one HPI3.out) hm1 (by unfold maxLen; omega) (by omega) hsz w3.heap.size rfl ?_); intro g4 cap4 w4 hown4 hgrow hat hlt4)
      have hgb := (HGL.out).1
      have hne3 : w.heap.size + 1 ≤ g → some w.heap.size ≠ (Value.slice (some ⟨g, 0, none⟩) ps.length cg).ownBlock := fun h e => by
        have : w.heap.size = g := by simpa [Value.ownBlock] using e
        omega
      have hq4 : w4.cell? ⟨w.heap.size, 3, none⟩ = some (.slice (some ⟨b, o, none⟩) t.len cap) := hgrow.cell hq3 (hne3 hgb)
      have BL := below_grown (bT hbl hb) hgrow fun j e => by
        have : g = j := by simpa [Value.ownBlock] using e
        omega
      have BL2 := Lib.hid BL
      have HOW4 := Lib.hid hown4
      clear BL hown4 hgrow hat hb hq3 hq c0 c1 c2 c3
      go_wp2
      go_roundw
      case rel =>
        refine ⟨k + 1, by go_num, by omega, ⟨g4, cap4, ps ++ ps3, by rw [List.length_append], ?_, fun x hx => ?_, ?_⟩, hq4, BL2.out⟩
        · rw [List.map_append, HPS.out, HPS3.out, partsTo]
          rfl
        · rw [List.mem_append] at hx
          rcases hx with hx | hx
          · exact HPI.out x hx
          · exact HPI3.out x hx
        · rw [List.length_append, cells4_app]
          exact HOW4.out
      case measure => simp [intOf]; omega
    · have hkm : k = t.len := by omega
      subst hkm
      go_wp2
      go_ret
      exact ⟨_, rfl, ⟨g, cg, ps, rfl, HPS.out, HPI.out, own_base HO.out (by omega)⟩, hbl⟩

/-- How many parts a value of so many levels may have. -/
theorem rparts_v : ∀ (m : Nat), m ≤ 3 → ∀ (t : VT), VT.rightB m t = true → ∀ (w0 : World) (sl : Value) (w : World), VT.In w0 t sl → Below w0.heap.size w0 w →
    Calls Tryd.prog 7 #[t.val sl] w (RetP w0 w (VT.partsM m t)) := by
  intro m
  induction m with
  | zero =>
    intro _ t hr w0 sl w hin hb
    have h0 := VT.rightB_kid0 hr
    have h := rparts_step t (by omega) (fun _ => []) (fun i hi => by omega) w0 (fun i hi => by omega) sl w hin hb
    rw [h0] at h
    exact h
  | succ m ih =>
    intro hm t hr w0 sl w hin hb
    obtain ⟨h4, hk⟩ := VT.rightB_kid hr
    exact rparts_step t h4 (fun i => VT.partsM m (t.kid i)) (fun i hi => ⟨partsM_one m _, Nat.le_trans (partsM_le m _ (hk i hi)) (by have : m ≤ 2 := by omega
                                                                                                                                     rcases m with _ | _ | _ | m <;> simp [most] <;> omega)⟩) w0 (fun i hi sl w hin hb => ih (by omega) (t.kid i) (hk i hi) w0 sl w hin hb) sl w hin hb
end Go.Proofs.YtbgpipdbnjoeeaaDoor
