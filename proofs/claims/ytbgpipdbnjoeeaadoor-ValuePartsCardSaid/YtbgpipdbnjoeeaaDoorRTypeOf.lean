/-
  The contract of the given package gavotteref02's TypeOf over this seat's translation: the type of a right value. Conditions: those that each theorem states.
-/
import Derived.Test.YtbgpipdbnjoeeaaDoorTypeOfB
import Derived.Deep.AppendLies
import Derived.Deep.RegionLaw
import Derived.Laws.OwnMore
namespace Go.Proofs.YtbgpipdbnjoeeaaDoor
open Go.RowKit Go.ChangeShapes Go.WideShapes Go.ChangeAt Go.Deep
attribute [local go_sem ↓] Go.wp_at_zero Go.wp_at_succ

namespace TT
/-- The tree lies in blocks that are so. -/
def InP (ok : Nat → Prop) (w : World) : TT → Value → Prop
  | .mk k len kids, sl => I64 k ∧ len ≤ 9223372036854775807 ∧ ∃ (p : Option Addr) (cap : Nat), sl = .slice p len cap ∧ len ≤ cap ∧ cap ≤ 9223372036854775807 ∧
      (0 < len → ∃ b o, ok b ∧ p = some ⟨b, o, none⟩ ∧ ∀ i (h : i < len), ∃ sl', w.cell? ⟨b, o + i * 2, none⟩ = some (.int .i64 (kids ⟨i, h⟩).k) ∧ w.cell? ⟨b, o + i * 2 + 1, none⟩ = some sl' ∧ InP ok w (kids ⟨i, h⟩) sl')
theorem Fresh.inP {B : Nat} {w : World} {ok : Nat → Prop} (hok : ∀ b, B ≤ b → b < w.heap.size → ok b) : ∀ {t : TT} {sl : Value}, Fresh B w t sl → InP ok w t sl := by
  intro t
  induction t with
  | mk k len kids ih =>
    rintro sl ⟨h1, h4, p, cap, hsl, hcap, hsz, hi⟩
    refine ⟨h1, h4, p, cap, hsl, hcap, hsz, fun hl => ?_⟩
    obtain ⟨b, o, hb, hp, hi⟩ := hi hl
    obtain ⟨_, c, _⟩ := hi 0 hl
    refine ⟨b, o, hok b hb (World.block_lt_of_cell? w _ c), hp, fun i hil => ?_⟩
    obtain ⟨sl', c0, c3, hk⟩ := hi i hil
    exact ⟨sl', c0, c3, ih _ hk⟩
theorem InP.keep {ok ok' : Nat → Prop} {w w' : World} (hok : ∀ b, ok b → b < w.heap.size → ok' b) (hc : ∀ b o v, ok b → w.cell? ⟨b, o, none⟩ = some v → w'.cell? ⟨b, o, none⟩ = some v) : ∀ {t : TT} {sl : Value}, InP ok w t sl → InP ok' w' t sl := by
  intro t
  induction t with
  | mk k len kids ih =>
    rintro sl ⟨h1, h4, p, cap, hsl, hcap, hsz, hi⟩
    refine ⟨h1, h4, p, cap, hsl, hcap, hsz, fun hl => ?_⟩
    obtain ⟨b, o, hb, hp, hi⟩ := hi hl
    obtain ⟨_, c, _⟩ := hi 0 hl
    refine ⟨b, o, hok b hb (World.block_lt_of_cell? w _ c), hp, fun i hil => ?_⟩
    obtain ⟨sl', c0, c3, hk⟩ := hi i hil
    exact ⟨sl', hc _ _ _ hb c0, hc _ _ _ hb c3, ih _ hk⟩
theorem InP.fresh {B : Nat} {w : World} {ok : Nat → Prop} (hok : ∀ b, ok b → B ≤ b) : ∀ {t : TT} {sl : Value}, InP ok w t sl → Fresh B w t sl := by
  intro t
  induction t with
  | mk k len kids ih =>
    rintro sl ⟨h1, h4, p, cap, hsl, hcap, hsz, hi⟩
    refine ⟨h1, h4, p, cap, hsl, hcap, hsz, fun hl => ?_⟩
    obtain ⟨b, o, hb, hp, hi⟩ := hi hl
    refine ⟨b, o, hok b hb, hp, fun i hil => ?_⟩
    obtain ⟨sl', c0, c3, hk⟩ := hi i hil
    exact ⟨sl', c0, c3, ih _ hk⟩
end TT

/-- The cells of the first k types. -/
def flat (ty : Nat → TT) (SL : Nat → Value) : Nat → List Value
  | 0 => []
  | k + 1 => flat ty SL k ++ [.int .i64 (ty k).k, SL k]
theorem flat_len (ty : Nat → TT) (SL : Nat → Value) : ∀ k, (flat ty SL k).length = k * 2
  | 0 => rfl
  | k + 1 => by rw [flat, List.length_append, flat_len ty SL k]; simp; omega
theorem flat_congr {ty : Nat → TT} {SL SL' : Nat → Value} : ∀ {k : Nat}, (∀ i, i < k → SL i = SL' i) → flat ty SL k = flat ty SL' k
  | 0, _ => rfl
  | k + 1, h => by rw [flat, flat, flat_congr (k := k) fun i hi => h i (by omega), h k (by omega)]
theorem flat_at (ty : Nat → TT) (SL : Nat → Value) : ∀ (k i : Nat), i < k → (flat ty SL k)[i * 2]? = some (.int .i64 (ty i).k) ∧ (flat ty SL k)[i * 2 + 1]? = some (SL i)
  | 0, i, h => by omega
  | k + 1, i, h => by
    rw [flat]
    by_cases e : i = k
    · subst e
      rw [List.getElem?_append_right (by rw [flat_len]; omega), List.getElem?_append_right (by rw [flat_len]; omega), flat_len]
      have e1 : i * 2 - i * 2 = 0 := by omega
      have e2 : i * 2 + 1 - i * 2 = 1 := by omega
      rw [e1, e2]
      exact ⟨rfl, rfl⟩
    · rw [List.getElem?_append_left (by rw [flat_len]; omega), List.getElem?_append_left (by rw [flat_len]; omega)]
      exact flat_at ty SL k i (by omega)

/-- Where k types are appended to the list ov. -/
def RelO (B : Nat) (ty : Nat → TT) (k : Nat) (ov : Value) (wr : World) : Prop :=
  ∃ SL : Nat → Value, wr.ownsRow (B + 3) 40 2 ov k (flat ty SL k) ∧ ∀ i, i < k → TT.InP (fun b => B + 3 ≤ b ∧ ov.ownBlock ≠ some b) wr (ty i) (SL i)
theorem relO_start (B : Nat) (ty : Nat → TT) (w : World) : RelO B ty 0 (.slice none 0 0) w := ⟨fun _ => .nilFunc, World.ownsRow_nil _ _ _ _, fun i h => by omega⟩
theorem ownsRow_stays {w w' : World} {B e size n : Nat} {v : Value} {xs : List Value} (h : w.ownsRow B e size v n xs) (hb : Below w.heap.size w w') : w'.ownsRow B e size v n xs := by
  refine ⟨h.1, ?_⟩
  rcases h.2 with hn | ⟨g, cap, cur, rfl, hB, hgg, rest⟩
  · exact .inl hn
  · exact .inr ⟨g, cap, cur, rfl, hB, by rw [hb.block g (Array.getElem?_eq_some_iff.1 hgg).1]; exact hgg, rest⟩
theorem relO_below {B : Nat} {ty : Nat → TT} {k : Nat} {ov : Value} {w w' : World} (h : RelO B ty k ov w) (hb : Below w.heap.size w w') : RelO B ty k ov w' := by
  obtain ⟨SL, ho, hk⟩ := h
  exact ⟨SL, ownsRow_stays ho hb, fun i hi => (hk i hi).keep (fun _ h _ => h) fun _ _ _ _ c => kc hb c⟩
theorem relO_set {B : Nat} {ty : Nat → TT} {k : Nat} {ov : Value} {w : World} (h : RelO B ty k ov w) {g o : Nat} (hg : g < B + 3) (v : Value) : RelO B ty k ov (w.setCell ⟨g, o, none⟩ v) := by
  obtain ⟨SL, ho, hk⟩ := h
  refine ⟨SL, ⟨ho.1, ?_⟩, fun i hi => (hk i hi).keep (fun _ h _ => h) fun b o v hb c => by rw [World.cell?_setCell_far _ _ _ _ (by show g ≠ b; omega)]; exact c⟩
  rcases ho.2 with hn | ⟨g', cap, cur, rfl, hB, hgg, rest⟩
  · exact .inl hn
  · exact .inr ⟨g', cap, cur, rfl, hB, by rw [blk_setCell_other _ _ _ _ (by show g' ≠ g; omega)]; exact hgg, rest⟩
theorem relO_append {B C : Nat} {ty : Nat → TT} {k : Nat} {ov : Value} {w3 w3a w4 : World} {SL : Nat → Value} {s : Value} {g cap : Nat}
    (hk : ∀ i, i < k → TT.InP (fun b => B + 3 ≤ b ∧ ov.ownBlock ≠ some b) w3 (ty i) (SL i)) (hT : TT.Fresh C w3 (ty k) s) (hC : B + 3 ≤ C) (hov : ∀ g, ov.ownBlock = some g → g < C)
    (ha : Below w3.heap.size w3 w3a)
    (hown : w4.ownsRow (B + 3) 40 2 (.slice (some ⟨g, 0, none⟩) (k + 1) cap) (k + 1) (flat ty SL k ++ [.int .i64 (ty k).k, s])) (hgrow : w3a.grownBy w4 ov.ownBlock) (hat : ov.ownBlock = some g ∨ g = w3.heap.size + 1) :
    RelO B ty (k + 1) (.slice (some ⟨g, 0, none⟩) (k + 1) cap) w4 := by
  have ok : ∀ b, (B + 3 ≤ b ∧ ov.ownBlock ≠ some b) → b < w3.heap.size → B + 3 ≤ b ∧ (Value.slice (some ⟨g, 0, none⟩) (k + 1) cap).ownBlock ≠ some b := fun b h hlt => by
    refine ⟨h.1, fun e => ?_⟩
    have e : g = b := by simpa [Value.ownBlock] using e
    rcases hat with h2 | h2
    · exact h.2 (by rw [h2, e])
    · omega
  have far : ∀ b o v, (B + 3 ≤ b ∧ ov.ownBlock ≠ some b) → w3.cell? ⟨b, o, none⟩ = some v → w4.cell? ⟨b, o, none⟩ = some v := fun b o v h c => hgrow.cell (kc ha c) (fun e => h.2 e.symm)
  refine ⟨fun i => if i = k then s else SL i, ?_, fun i hi => ?_⟩
  · rw [show flat ty (fun i => if i = k then s else SL i) (k + 1) = flat ty SL k ++ [.int .i64 (ty k).k, s] from by
      rw [flat, flat_congr (SL' := SL) fun i hi => if_neg (by omega)]
      show _ ++ [_, if k = k then s else _] = _
      rw [if_pos rfl]]
    exact hown
  · show TT.InP _ _ _ (if i = k then s else SL i)
    by_cases e : i = k
    · subst e
      rw [if_pos rfl]
      exact (hT.inP (ok := fun b => B + 3 ≤ b ∧ ov.ownBlock ≠ some b) fun b hb hlt => ⟨by omega, fun e => by have := hov b e; omega⟩).keep ok far
    · rw [if_neg e]
      exact (hk i (by omega)).keep ok far
theorem relO_end {B : Nat} {wr : World} {ty : Nat → TT} {len : Nat} {ov : Value} (h : RelO B ty len ov wr) (hl : len ≤ 1000) (k : Int) (hk : I64 k) : ∃ (p : Option Addr) (cap : Nat), ov = .slice p len cap ∧ TT.Fresh (B + 3) wr (.mk k len (fun i => ty i.val)) (.slice p len cap) := by
  obtain ⟨SL, ho, hi⟩ := h
  rcases ho.2 with ⟨rfl, h0⟩ | ⟨g, cap, cur, rfl, hB, hgg, hle, hmx, _, _⟩
  · subst h0
    exact ⟨none, 0, rfl, hk, by omega, none, 0, rfl, by omega, by omega, by omega⟩
  · unfold maxLen at hmx
    refine ⟨some ⟨g, 0, none⟩, cap, rfl, hk, by omega, _, _, rfl, hle, by omega, fun h0 => ⟨g, 0, by omega, rfl, fun i hil => ⟨SL i, ?_, ?_, (hi i hil).fresh fun b h => by omega⟩⟩⟩
    · have := ho.cellAt (i * 2) (by omega)
      rw [(flat_at ty SL len i hil).1] at this
      simpa using this
    · have := ho.cellAt (i * 2 + 1) (by omega)
      rw [(flat_at ty SL len i hil).2] at this
      simpa using this
theorem relO_slice {B : Nat} {ty : Nat → TT} {k : Nat} {ov : Value} {w : World} (h : RelO B ty k ov w) : ∃ (p : Option Addr) (cap : Nat), ov = .slice p k cap := by
  obtain ⟨SL, ho, _⟩ := h
  rcases ho.2 with ⟨rfl, h0⟩ | ⟨g, cap, cur, rfl, _⟩
  · exact ⟨none, 0, by rw [h0]⟩
  · exact ⟨_, _, rfl⟩

/-- The call's own boxes. -/
def Bx (n : Nat) (t : VT) (p : Option Addr) (cap : Nat) (ov : Value) (w : World) : Prop :=
  w.cell? ⟨n, 3, none⟩ = some (.slice p t.len cap) ∧ w.cell? ⟨n + 1, 0, none⟩ = some (.int .i64 0) ∧ w.cell? ⟨n + 1, 1, none⟩ = some (.slice none 0 0) ∧ w.frozen? ⟨n + 1, 0, none⟩ = false ∧ w.frozen? ⟨n + 1, 1, none⟩ = false ∧
  w.cell? ⟨n + 1 + 1, 0, none⟩ = some (.int .i64 t.k) ∧ w.cell? ⟨n + 1 + 1, 1, none⟩ = some ov ∧ w.frozen? ⟨n + 1 + 1, 1, none⟩ = false
theorem Bx.keep {n : Nat} {t : VT} {p : Option Addr} {cap : Nat} {ov : Value} {w w' : World} (h : Bx n t p cap ov w) (hb : Below w.heap.size w w') : Bx n t p cap ov w' := by
  obtain ⟨h1, h2, h3, h4, h5, h6, h7, h8⟩ := h
  exact ⟨kc hb h1, kc hb h2, kc hb h3, kf hb h2 h4, kf hb h3 h5, kc hb h6, kc hb h7, kf hb h7 h8⟩
theorem Bx.grown {n : Nat} {t : VT} {p : Option Addr} {cap : Nat} {ov : Value} {w w' : World} {row : Option Nat} (h : Bx n t p cap ov w) (hg : w.grownBy w' row) (hr : ∀ k, row = some k → n + 3 ≤ k) : Bx n t p cap ov w' := by
  obtain ⟨h1, h2, h3, h4, h5, h6, h7, h8⟩ := h
  have ne : ∀ b, b < n + 3 → some b ≠ row := fun b hb e => by have := hr b e.symm; omega
  exact ⟨hg.cell h1 (ne n (by omega)), hg.cell h2 (ne (n + 1) (by omega)), hg.cell h3 (ne (n + 1) (by omega)), (hg.frozen_far _ (World.block_lt_of_cell? w _ h2) (ne (n + 1) (by omega))).trans h4, (hg.frozen_far _ (World.block_lt_of_cell? w _ h3) (ne (n + 1) (by omega))).trans h5,
    hg.cell h6 (ne (n + 1 + 1) (by omega)), hg.cell h7 (ne (n + 1 + 1) (by omega)), (hg.frozen_far _ (World.block_lt_of_cell? w _ h7) (ne (n + 1 + 1) (by omega))).trans h8⟩
theorem Bx.set {n : Nat} {t : VT} {p : Option Addr} {cap : Nat} {ov v : Value} {w : World} (h : Bx n t p cap ov w) : Bx n t p cap v (w.setCell ⟨n + 1 + 1, 1, none⟩ v) := by
  obtain ⟨h1, h2, h3, h4, h5, h6, h7, h8⟩ := h
  refine ⟨?_, ?_, ?_, ?_, ?_, ?_, World.cell?_setCell_same _ _ _ h7, ?_⟩
  · rw [World.cell?_setCell_far _ _ _ _ (by show n + 1 + 1 ≠ n; omega)]; exact h1
  · rw [World.cell?_setCell_far _ _ _ _ (by show n + 1 + 1 ≠ n + 1; omega)]; exact h2
  · rw [World.cell?_setCell_far _ _ _ _ (by show n + 1 + 1 ≠ n + 1; omega)]; exact h3
  · go_simp
  · go_simp
  · rw [World.cell?_setCell_other _ _ _ _ (by simp)]; exact h6
  · go_simp
theorem below_grown {w a b : World} {row : Option Nat} (h : Below w.heap.size w a) (hg : a.grownBy b row) (hr : ∀ k, row = some k → w.heap.size ≤ k) : Below w.heap.size w b :=
  ⟨hg.os.trans h.os, hg.tape.trans h.tape, hg.output.trans h.output, Nat.le_trans h.size hg.size, fun i hi => (hg.block i (Nat.lt_of_lt_of_le hi h.size) fun e => by have := hr i e.symm; omega).trans (h.block i hi)⟩

end Go.Proofs.YtbgpipdbnjoeeaaDoor
