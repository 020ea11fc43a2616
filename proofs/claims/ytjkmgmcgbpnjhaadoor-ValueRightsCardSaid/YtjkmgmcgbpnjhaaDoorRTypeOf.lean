/-
  The contract of the given package gavotteref02's TypeOf over this seat's translation: the type of a right value. Conditions: those that each theorem states.
-/
import Derived.Test.YtjkmgmcgbpnjhaaDoorTypeOfB
import Derived.Deep.AppendLies
import Derived.Deep.RegionLaw
import Derived.Laws.OwnMore
namespace Go.Proofs.YtjkmgmcgbpnjhaaDoor
open Go.RowKit Go.ChangeShapes Go.WideShapes Go.ChangeAt Go.Deep
attribute [local go_sem ↓] Go.wp_at_zero Go.wp_at_succ

namespace TT
/-- The tree lies in blocks that are so. -/
def InP (ok : Nat → Prop) (w : World) : TT → Value → Prop
  | .mk k len kids, sl => I64 k ∧ len ≤ 9223372036854775807 ∧ ∃ (p : Option Addr) (cap : Nat), sl = .slice p len cap ∧ len ≤ cap ∧ cap ≤ 9223372036854775807 ∧
      (0 < len → ∃ b o, ok b ∧ p = some ⟨b, o, none⟩ ∧ ∀ i (h : i < len), ∃ sl', w.cell? ⟨b, o + i * 2, none⟩ = some (.int .i64 (kids ⟨i, h⟩).k) ∧ w.cell? ⟨b, o + i * 2 + 1, none⟩ = some sl' ∧ InP ok w (kids ⟨i, h⟩) sl')
theorem Fresh.inP {B : Nat} {w : World} {ok : Nat → Prop} (hok : ∀ b, B ≤ b → b < w.heap.size → ok b) : ∀ {t : TT} {sl : Value}, Fresh B w t sl → InP ok w t sl := by
  intro t
  induction t with
  | mk k len kids ih =>
    rintro sl ⟨h1, h4, p, cap, hsl, hcap, hsz, hi⟩
    refine ⟨h1, h4, p, cap, hsl, hcap, hsz, fun hl => ?_⟩
    obtain ⟨b, o, hb, hp, hi⟩ := hi hl
    obtain ⟨_, c, _⟩ := hi 0 hl
    refine ⟨b, o, hok b hb (World.block_lt_of_cell? w _ c), hp, fun i hil => ?_⟩
    obtain ⟨sl', c0, c3, hk⟩ := hi i hil
    exact ⟨sl', c0, c3, ih _ hk⟩
theorem InP.keep {ok ok' : Nat → Prop} {w w' : World} (hok : ∀ b, ok b → b < w.heap.size → ok' b) (hc : ∀ b o v, ok b → w.cell? ⟨b, o, none⟩ = some v → w'.cell? ⟨b, o, none⟩ = some v) : ∀ {t : TT} {sl : Value}, InP ok w t sl → InP ok' w' t sl := by
  intro t
  induction t with
  | mk k len kids ih =>
    rintro sl ⟨h1, h4, p, cap, hsl, hcap, hsz, hi⟩
    refine ⟨h1, h4, p, cap, hsl, hcap, hsz, fun hl => ?_⟩
    obtain ⟨b, o, hb, hp, hi⟩ := hi hl
    obtain ⟨_, c, _⟩ := hi 0 hl
    refine ⟨b, o, hok b hb (World.block_lt_of_cell? w _ c), hp, fun i hil => ?_⟩
    obtain ⟨sl', c0, c3, hk⟩ := hi i hil
    exact ⟨sl', hc _ _ _ hb c0, hc _ _ _ hb c3, ih _ hk⟩
theorem InP.fresh {B : Nat} {w : World} {ok : Nat → Prop} (hok : ∀ b, ok b → B ≤ b) : ∀ {t : TT} {sl : Value}, InP ok w t sl → Fresh B w t sl := by
  intro t
  induction t with
  | mk k len kids ih =>
    rintro sl ⟨h1, h4, p, cap, hsl, hcap, hsz, hi⟩
    refine ⟨h1, h4, p, cap, hsl, hcap, hsz, fun hl => ?_⟩
    obtain ⟨b, o, hb, hp, hi⟩ := hi hl
    refine ⟨b, o, hok b hb, hp, fun i hil => ?_⟩
    obtain ⟨sl', c0, c3, hk⟩ := hi i hil
    exact ⟨sl', c0, c3, ih _ hk⟩
end TT

/-- The cells of the first k types. -/
def flat (ty : Nat → TT) (SL : Nat → Value) : Nat → List Value
  | 0 => []
  | k + 1 => flat ty SL k ++ [.int .i64 (ty k).k, SL k]
theorem flat_len (ty : Nat → TT) (SL : Nat → Value) : ∀ k, (flat ty SL k).length = k * 2
  | 0 => rfl
  | k + 1 => by rw [flat, List.length_append, flat_len ty SL k]; simp; omega
theorem flat_congr {ty : Nat → TT} {SL SL' : Nat → Value} : ∀ {k : Nat}, (∀ i, i < k → SL i = SL' i) → flat ty SL k = flat ty SL' k
  | 0, _ => rfl
  | k + 1, h => by rw [flat, flat, flat_congr (k := k) fun i hi => h i (by omega), h k (by omega)]
theorem flat_at (ty : Nat → TT) (SL : Nat → Value) : ∀ (k i : Nat), i < k → (flat ty SL k)[i * 2]? = some (.int .i64 (ty i).k) ∧ (flat ty SL k)[i * 2 + 1]? = some (SL i)
  | 0, i, h => by omega
  | k + 1, i, h => by
    rw [flat]
    by_cases e : i = k
    · subst e
      rw [List.getElem?_append_right (by rw [flat_len]; omega), List.getElem?_append_right (by rw [flat_len]; omega), flat_len]
      have e1 : i * 2 - i * 2 = 0 := by omega
      have e2 : i * 2 + 1 - i * 2 = 1 := by omega
      rw [e1, e2]
      exact ⟨rfl, rfl⟩
    · rw [List.getElem?_append_left (by rw [flat_len]; omega), List.getElem?_append_left (by rw [flat_len]; omega)]
      exact flat_at ty SL k i (by omega)

/-- Where k types are appended to the list ov. -/
def RelO (B : Nat) (ty : Nat → TT) (k : Nat) (ov : Value) (wr : World) : Prop :=
  ∃ SL : Nat → Value, wr.ownsRow (B + 3) 47 2 ov k (flat ty SL k) ∧ ∀ i, i < k → TT.InP (fun b => B + 3 ≤ b ∧ ov.ownBlock ≠ some b) wr (ty i) (SL i)
theorem relO_start (B : Nat) (ty : Nat → TT) (w : World) : RelO B ty 0 (.slice none 0 0) w := ⟨fun _ => .nilFunc, World.ownsRow_nil _ _ _ _, fun i h => by omega⟩
theorem ownsRow_stays {w w' : World} {B e size n : Nat} {v : Value} {xs : List Value} (h : w.ownsRow B e size v n xs) (hb : Below w.heap.size w w') : w'.ownsRow B e size v n xs := by
  refine ⟨h.1, ?_⟩
  rcases h.2 with hn | ⟨g, cap, cur, rfl, hB, hgg, rest⟩
  · exact .inl hn
  · exact .inr ⟨g, cap, cur, rfl, hB, by rw [hb.block g (Array.getElem?_eq_some_iff.1 hgg).1]; exact hgg, rest⟩
theorem relO_below {B : Nat} {ty : Nat → TT} {k : Nat} {ov : Value} {w w' : World} (h : RelO B ty k ov w) (hb : Below w.heap.size w w') : RelO B ty k ov w' := by
  obtain ⟨SL, ho, hk⟩ := h
  exact ⟨SL, ownsRow_stays ho hb, fun i hi => (hk i hi).keep (fun _ h _ => h) fun _ _ _ _ c => kc hb c⟩
theorem relO_set {B : Nat} {ty : Nat → TT} {k : Nat} {ov : Value} {w : World} (h : RelO B ty k ov w) {g o : Nat} (hg : g < B + 3) (v : Value) : RelO B ty k ov (w.setCell ⟨g, o, none⟩ v) := by
  obtain ⟨SL, ho, hk⟩ := h
  refine ⟨SL, ⟨ho.1, ?_⟩, fun i hi => (hk i hi).keep (fun _ h _ => h) fun b o v hb c => by rw [World.cell?_setCell_far _ _ _ _ (by show g ≠ b; omega)]; exact c⟩
  rcases ho.2 with hn | ⟨g', cap, cur, rfl, hB, hgg, rest⟩
  · exact .inl hn
  · exact .inr ⟨g', cap, cur, rfl, hB, by rw [blk_setCell_other _ _ _ _ (by show g' ≠ g; omega)]; exact hgg, rest⟩
theorem relO_append {B C : Nat} {ty : Nat → TT} {k : Nat} {ov : Value} {w3 w3a w4 : World} {SL : Nat → Value} {s : Value} {g cap : Nat}
    (hk : ∀ i, i < k → TT.InP (fun b => B + 3 ≤ b ∧ ov.ownBlock ≠ some b) w3 (ty i) (SL i)) (hT : TT.Fresh C w3 (ty k) s) (hC : B + 3 ≤ C) (hov : ∀ g, ov.ownBlock = some g → g < C)
    (ha : Below w3.heap.size w3 w3a)
    (hown : w4.ownsRow (B + 3) 47 2 (.slice (some ⟨g, 0, none⟩) (k + 1) cap) (k + 1) (flat ty SL k ++ [.int .i64 (ty k).k, s])) (hgrow : w3a.grownBy w4 ov.ownBlock) (hat : ov.ownBlock = some g ∨ g = w3.heap.size + 1) :
    RelO B ty (k + 1) (.slice (some ⟨g, 0, none⟩) (k + 1) cap) w4 := by
  have ok : ∀ b, (B + 3 ≤ b ∧ ov.ownBlock ≠ some b) → b < w3.heap.size → B + 3 ≤ b ∧ (Value.slice (some ⟨g, 0, none⟩) (k + 1) cap).ownBlock ≠ some b := fun b h hlt => by
    refine ⟨h.1, fun e => ?_⟩
    have e : g = b := by simpa [Value.ownBlock] using e
    rcases hat with h2 | h2
    · exact h.2 (by rw [h2, e])
    · omega
  have far : ∀ b o v, (B + 3 ≤ b ∧ ov.ownBlock ≠ some b) → w3.cell? ⟨b, o, none⟩ = some v → w4.cell? ⟨b, o, none⟩ = some v := fun b o v h c => hgrow.cell (kc ha c) (fun e => h.2 e.symm)
  refine ⟨fun i => if i = k then s else SL i, ?_, fun i hi => ?_⟩
  · rw [show flat ty (fun i => if i = k then s else SL i) (k + 1) = flat ty SL k ++ [.int .i64 (ty k).k, s] from by
      rw [flat, flat_congr (SL' := SL) fun i hi => if_neg (by omega)]
      show _ ++ [_, if k = k then s else _] = _
      rw [if_pos rfl]]
    exact hown
  · show TT.InP _ _ _ (if i = k then s else SL i)
    by_cases e : i = k
    · subst e
      rw [if_pos rfl]
      exact (hT.inP (ok := fun b => B + 3 ≤ b ∧ ov.ownBlock ≠ some b) fun b hb hlt => ⟨by omega, fun e => by have := hov b e; omega⟩).keep ok far
    · rw [if_neg e]
      exact (hk i (by omega)).keep ok far
theorem relO_end {B : Nat} {wr : World} {ty : Nat → TT} {len : Nat} {ov : Value} (h : RelO B ty len ov wr) (hl : len ≤ 1000) (k : Int) (hk : I64 k) : ∃ (p : Option Addr) (cap : Nat), ov = .slice p len cap ∧ TT.Fresh (B + 3) wr (.mk k len (fun i => ty i.val)) (.slice p len cap) := by
  obtain ⟨SL, ho, hi⟩ := h
  rcases ho.2 with ⟨rfl, h0⟩ | ⟨g, cap, cur, rfl, hB, hgg, hle, hmx, _, _⟩
  · subst h0
    exact ⟨none, 0, rfl, hk, by omega, none, 0, rfl, by omega, by omega, by omega⟩
  · unfold maxLen at hmx
    refine ⟨some ⟨g, 0, none⟩, cap, rfl, hk, by omega, _, _, rfl, hle, by omega, fun h0 => ⟨g, 0, by omega, rfl, fun i hil => ⟨SL i, ?_, ?_, (hi i hil).fresh fun b h => by omega⟩⟩⟩
    · have := ho.cellAt (i * 2) (by omega)
      rw [(flat_at ty SL len i hil).1] at this
      simpa using this
    · have := ho.cellAt (i * 2 + 1) (by omega)
      rw [(flat_at ty SL len i hil).2] at this
      simpa using this
theorem relO_slice {B : Nat} {ty : Nat → TT} {k : Nat} {ov : Value} {w : World} (h : RelO B ty k ov w) : ∃ (p : Option Addr) (cap : Nat), ov = .slice p k cap := by
  obtain ⟨SL, ho, _⟩ := h
  rcases ho.2 with ⟨rfl, h0⟩ | ⟨g, cap, cur, rfl, _⟩
  · exact ⟨none, 0, by rw [h0]⟩
  · exact ⟨_, _, rfl⟩

/-- The call's own boxes. -/
def Bx (n : Nat) (t : VT) (p : Option Addr) (cap : Nat) (ov : Value) (w : World) : Prop :=
  w.cell? ⟨n, 3, none⟩ = some (.slice p t.len cap) ∧ w.cell? ⟨n + 1, 0, none⟩ = some (.int .i64 0) ∧ w.cell? ⟨n + 1, 1, none⟩ = some (.slice none 0 0) ∧ w.frozen? ⟨n + 1, 0, none⟩ = false ∧ w.frozen? ⟨n + 1, 1, none⟩ = false ∧
  w.cell? ⟨n + 1 + 1, 0, none⟩ = some (.int .i64 t.k) ∧ w.cell? ⟨n + 1 + 1, 1, none⟩ = some ov ∧ w.frozen? ⟨n + 1 + 1, 1, none⟩ = false
theorem Bx.keep {n : Nat} {t : VT} {p : Option Addr} {cap : Nat} {ov : Value} {w w' : World} (h : Bx n t p cap ov w) (hb : Below w.heap.size w w') : Bx n t p cap ov w' := by
  obtain ⟨h1, h2, h3, h4, h5, h6, h7, h8⟩ := h
  exact ⟨kc hb h1, kc hb h2, kc hb h3, kf hb h2 h4, kf hb h3 h5, kc hb h6, kc hb h7, kf hb h7 h8⟩
theorem Bx.grown {n : Nat} {t : VT} {p : Option Addr} {cap : Nat} {ov : Value} {w w' : World} {row : Option Nat} (h : Bx n t p cap ov w) (hg : w.grownBy w' row) (hr : ∀ k, row = some k → n + 3 ≤ k) : Bx n t p cap ov w' := by
  obtain ⟨h1, h2, h3, h4, h5, h6, h7, h8⟩ := h
  have ne : ∀ b, b < n + 3 → some b ≠ row := fun b hb e => by have := hr b e.symm; omega
  exact ⟨hg.cell h1 (ne n (by omega)), hg.cell h2 (ne (n + 1) (by omega)), hg.cell h3 (ne (n + 1) (by omega)), (hg.frozen_far _ (World.block_lt_of_cell? w _ h2) (ne (n + 1) (by omega))).trans h4, (hg.frozen_far _ (World.block_lt_of_cell? w _ h3) (ne (n + 1) (by omega))).trans h5,
    hg.cell h6 (ne (n + 1 + 1) (by omega)), hg.cell h7 (ne (n + 1 + 1) (by omega)), (hg.frozen_far _ (World.block_lt_of_cell? w _ h7) (ne (n + 1 + 1) (by omega))).trans h8⟩
theorem Bx.set {n : Nat} {t : VT} {p : Option Addr} {cap : Nat} {ov v : Value} {w : World} (h : Bx n t p cap ov w) : Bx n t p cap v (w.setCell ⟨n + 1 + 1, 1, none⟩ v) := by
  obtain ⟨h1, h2, h3, h4, h5, h6, h7, h8⟩ := h
  refine ⟨?_, ?_, ?_, ?_, ?_, ?_, World.cell?_setCell_same _ _ _ h7, ?_⟩
  · rw [World.cell?_setCell_far _ _ _ _ (by show n + 1 + 1 ≠ n; omega)]; exact h1
  · rw [World.cell?_setCell_far _ _ _ _ (by show n + 1 + 1 ≠ n + 1; omega)]; exact h2
  · rw [World.cell?_setCell_far _ _ _ _ (by show n + 1 + 1 ≠ n + 1; omega)]; exact h3
  · go_simp
  · go_simp
  · rw [World.cell?_setCell_other _ _ _ _ (by simp)]; exact h6
  · go_simp
theorem below_grown {w a b : World} {row : Option Nat} (h : Below w.heap.size w a) (hg : a.grownBy b row) (hr : ∀ k, row = some k → w.heap.size ≤ k) : Below w.heap.size w b :=
  ⟨hg.os.trans h.os, hg.tape.trans h.tape, hg.output.trans h.output, Nat.le_trans h.size hg.size, fun i hi => (hg.block i (Nat.lt_of_lt_of_le hi h.size) fun e => by have := hr i e.symm; omega).trans (h.block i hi)⟩

set_option maxRecDepth 100000 in
set_option maxHeartbeats 8000000 in
theorem rtypeOf_step (t : VT) (h4 : t.len ≤ 4) (ty : Nat → TT)
    (ih : ∀ i, i < t.len → ∀ (sl : Value) (w : World), VT.In w (t.kid i) sl → Calls Tryd.prog 29 #[(t.kid i).val sl] w (RetT w (ty i)))
    (sl : Value) (w : World) (hin : VT.In w t sl) :
    Calls Tryd.prog 29 #[t.val sl] w (RetT w (.mk t.k t.len (fun i => ty i.val))) := by
  obtain ⟨hik, _, _, hl, p, cap, rfl, hlc, hcap, hk⟩ := hin.out
  have HK := Lib.hid hk
  have HI := Lib.hid ih
  have HIK := Lib.hid hik
  obtain ⟨i0, hi0, hz0, hz1, hz2⟩ := info_parts infoType
  clear hk ih hin hik
  unfold VT.val
  go_enter Tryd.func29, Tryd.ntmps29
  go_wp2
  have bx : Bx w.heap.size t p cap (.slice none 0 0) (((w.alloc (.cells #[.int .i64 t.k, .int .i64 t.n, .string t.s, .slice p t.len cap] 35)).alloc (.cells #[.int .i64 0, .slice none 0 0] 47)).alloc (.cells #[.int .i64 t.k, .slice none 0 0] 47)) := ⟨by go_simp, by go_simp, by go_simp, by go_simp, by go_simp, by go_simp, by go_simp, by go_simp⟩
  have hro := relO_start w.heap.size ty (((w.alloc (.cells #[.int .i64 t.k, .int .i64 t.n, .string t.s, .slice p t.len cap] 35)).alloc (.cells #[.int .i64 0, .slice none 0 0] 47)).alloc (.cells #[.int .i64 t.k, .slice none 0 0] 47))
  have WB : Below w.heap.size w (((w.alloc (.cells #[.int .i64 t.k, .int .i64 t.n, .string t.s, .slice p t.len cap] 35)).alloc (.cells #[.int .i64 0, .slice none 0 0] 47)).alloc (.cells #[.int .i64 t.k, .slice none 0 0] 47)) := bA (bA (bA (Below.refl _ _) _) _) _
  generalize (((w.alloc (.cells #[.int .i64 t.k, .int .i64 t.n, .string t.s, .slice p t.len cap] 35)).alloc (.cells #[.int .i64 0, .slice none 0 0] 47)).alloc (.cells #[.int .i64 t.k, .slice none 0 0] 47)) = w0 at *
  go_loopw [4] (fun vk wr => ∃ (k : Nat) (ov : Value), vk = .int .i64 k ∧ k ≤ t.len ∧ RelO w.heap.size ty k ov wr ∧ Bx w.heap.size t p cap ov wr ∧ Below w.heap.size w wr) (fun vk _ => t.len - (intOf vk).toNat)
  case atStart => exact ⟨0, _, rfl, Nat.zero_le _, hro, bx, WB⟩
  case round =>
    obtain ⟨k, ov, rfl, hkl, hr, hbx, hbl⟩ := hrel
    clear bx hro WB
    obtain ⟨po, co, rfl⟩ := relO_slice hr
    have HR := Lib.hid hr
    have HBX := Lib.hid hbx
    obtain ⟨q3, r0, r1, g0, g1, u0, u1, f1⟩ := hbx
    clear hr
    by_cases hlt : k < t.len
    · obtain ⟨b, o, rfl, kk⟩ := HK.out (by omega)
      obtain ⟨sl', ⟨c0, c1, c2, c3⟩, hkin⟩ := kk k hlt
      obtain ⟨p', cap', rfl⟩ := hkin.slice
      have hbw : b < w.heap.size := World.block_lt_of_cell? w _ c0
      have HN := Lib.hid hkin
      have hc := HI.out k hlt
      have HC := Lib.hid hc
      clear hkin hc kk
      replace c0 := kc hbl c0
      replace c1 := kc hbl c1
      replace c2 := kc hbl c2
      replace c3 := kc hbl c3
      have hwr : w.heap.size + 3 ≤ wr.heap.size := World.block_lt_of_cell? wr _ u1
      go_wp2_with fail
      go_region_law (first
          | (refine step_append_lies _ (by rfl) _ _ _ (by rfl) (w.heap.size + 3) 47 i0 _ 2 32 Tryd.underlying45 hi0 hz0 hz1 hz2 rfl (by omega) (.slice po k co) k _ (by rfl) (HO.out.alloc _) ⟨w3.heap.size, 0, none⟩ 1 1 [.int .i64 (ty k).k, .slice p3 (ty k).len cap3] (by rfl) (by rfl) (World.news_of_block (cs := #[.int .i64 (ty k).k, .slice p3 (ty k).len cap3]) (t := 47) (fr := (0, 0)) (heap_alloc_new w3 _)) (by simp [Value.oneCell']) (by omega) (by unfold maxLen; omega) (by omega) (by have := Q.size; simp; omega) (w3.heap.size + 1) (by simp) ?_; intro g cap4 w4 hown4 hgrow hat hlt4; have hrow : ∀ j, (Value.slice po k co).ownBlock = some j → w.heap.size + 3 ≤ j := fun j e => (HO.out.lt j e).1; have HB4 := Lib.hid ((HB3.out.keep (bA (Below.refl _ _) _)).grown hgrow hrow); clear r0 r1 g0 g1 u0 u1 f1; obtain ⟨_, r0, r1, g0, g1, u0, u1, f1⟩ := HB4.out)
          | (go_simp; go_at_call 29; refine (HC.out _ _ (inK (by repeat (first | with_reducible assumption | with_reducible exact Below.refl _ _ | with_reducible refine bN ?_ _ | with_reducible refine Below.drew ?_ | with_reducible refine bA ?_ _ | with_reducible refine bT ?_ (by assumption))) HN.out)).mono ?_; rintro e w3 hret; obtain ⟨p3, cap3, rfl, hfr, hb⟩ := hret; have Q : Below wr.heap.size wr w3 := (by repeat (first | with_reducible assumption | with_reducible exact Below.refl _ _ | with_reducible refine bN ?_ _ | with_reducible refine Below.drew ?_ | with_reducible refine bA ?_ _ | with_reducible refine bT ?_ (by assumption))); have HB3 := Lib.hid (HBX.out.keep Q); clear r0 r1 g0 g1 u0 u1 f1; obtain ⟨_, r0, r1, g0, g1, u0, u1, f1⟩ := HB3.out; have v1 := kc (bA (Below.refl _ w3) (.cells #[.int .i64 (ty k).k, .slice p3 (ty k).len cap3] 47)) u1; obtain ⟨SL, ho, hki⟩ := relO_below HR.out Q; have HO := Lib.hid ho; have HKI := Lib.hid hki; have HF3 := Lib.hid hfr; clear ho hki hfr))
      all_goals
        have RO := relO_set (relO_append HKI.out HF3.out (by simpa using hwr) (fun j e => by have := (HR.out.choose_spec.1.lt j e).2; simpa using this) (bA (Below.refl _ _) _) hown4 hgrow hat) (g := w.heap.size + 1 + 1) (o := 1) (by omega) (.slice (some ⟨g, 0, none⟩) (k + 1) cap4)
        have BN := HB4.out.set (v := .slice (some ⟨g, 0, none⟩) (k + 1) cap4)
        have BL := bS (below_grown (bT hbl (bT Q (bA (Below.refl _ w3) _))) hgrow fun j e => by have := hrow j e; omega) (p := ⟨w.heap.size + 1 + 1, 1, none⟩) (by show w.heap.size ≤ w.heap.size + 1 + 1; omega) (.slice (some ⟨g, 0, none⟩) (k + 1) cap4)
        have RO2 := Lib.hid RO
        have BN2 := Lib.hid BN
        have BL2 := Lib.hid BL
        clear RO BN BL hown4 hgrow hat hrow hb Q c0 c1 c2 c3 q3 r0 r1 g0 g1 u0 u1 f1 v1
        go_wp2
        go_roundw
        case rel => exact ⟨k + 1, _, by go_num, by omega, RO2.out, BN2.out, BL2.out⟩
        case measure => simp [intOf]; omega
    · have hkm : k = t.len := by omega
      subst hkm
      obtain ⟨p9, cap9, e9, hF⟩ := relO_end HR.out (by omega) t.k HIK.out
      injection e9 with e91 e92 e93
      subst e91 e93
      have HF := Lib.hid hF
      have HBL := Lib.hid hbl
      clear hF e92 hbl
      go_wp2
      exact bodyPost_ret (v := .agg #[.int .i64 t.k, .slice po t.len co]) (by simp [results, Tryd.results29, go_sem, r0, r1]) rfl ⟨po, co, rfl, HF.out.keep (by omega) (fun b o v hb c => keepset2 (by omega) c), bS (bS HBL.out (by simp) _) (by simp) _⟩

theorem rtypeOf_v : ∀ (m : Nat) (t : VT), VT.rightB m t = true → ∀ (sl : Value) (w : World), VT.In w t sl →
    Calls Tryd.prog 29 #[t.val sl] w (RetT w (VT.typeM m t)) := by
  intro m
  induction m with
  | zero =>
    intro t hr sl w hin
    have h0 := VT.rightB_kid0 hr
    exact rtypeOf_step t (by omega) (fun _ => .leaf) (fun i hi => by omega) sl w hin
  | succ m ih =>
    intro t hr sl w hin
    obtain ⟨h4, hk⟩ := VT.rightB_kid hr
    exact rtypeOf_step t h4 (fun i => VT.typeM m (t.kid i)) (fun i hi sl w hin => ih (t.kid i) (hk i hi) sl w hin) sl w hin
end Go.Proofs.YtjkmgmcgbpnjhaaDoor
