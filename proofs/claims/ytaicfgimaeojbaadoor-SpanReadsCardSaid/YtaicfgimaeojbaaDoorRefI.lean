/-
  Plain mathematics for the given package gavotteref01: how Num.Div reckons, and what a row of the call's own keeps. No condition but those that each theorem states.
-/
import Derived.Test.YtaicfgimaeojbaaDoorRefH
namespace Go.Proofs.YtaicfgimaeojbaaDoor
open Go.RowKit

theorem RowL.keep {w w' : World} {B g n : Nat} {l : List Int} (h : RowL w B g n l) (hb : Below w.heap.size w w') : RowL w' B g n l := by
  obtain ⟨⟨h1, h2⟩, h3⟩ := h
  refine ⟨⟨h1, ?_⟩, h3⟩
  rcases h2 with ⟨e, hn⟩ | ⟨g', cap, cur, e, hg, hh, r⟩
  · exact .inl ⟨e, hn⟩
  · have hlt : g' < w.heap.size := (Array.getElem?_eq_some_iff.1 hh).1
    exact .inr ⟨g', cap, cur, e, hg, by rw [hb.block g' hlt]; exact hh, r⟩

structure DivI (la : List Int) (B : Int) (k : Nat) (qs : List Int) (R : Int) : Prop where
  len : qs.length = la.length
  dig : Dig qs
  hk : k ≤ la.length
  r0 : 0 ≤ R
  r1 : R < B
  low : ∀ j, j < k → qs.getD j 0 = 0
  sum : val la = val qs * B + (val (la.take k) + 10000 ^ k * R)
theorem DivI.start (la : List Int) (B : Int) (hB : 0 < B) : DivI la B la.length (List.replicate la.length 0) 0 :=
  ⟨by simp, fun x hx => by rw [List.eq_of_mem_replicate hx]; omega, Nat.le_refl _, Int.le_refl _, hB, fun j hj => by simp [List.getD, hj], by rw [val_rep, List.take_length]; omega⟩
theorem DivI.step {la qs : List Int} {B R u : Int} {j : Nat} (h : DivI la B (j + 1) qs R) (h0 : 0 ≤ u) (h1 : u ≤ 9999) (h2 : u * B ≤ la.getD j 0 + 10000 * R) (h3 : la.getD j 0 + 10000 * R < (u + 1) * B) :
    DivI la B j (qs.set j u) (la.getD j 0 + 10000 * R - u * B) := by
  have hk := h.hk
  have hl := h.len
  have hz := h.low j (by omega)
  have hs := h.sum
  refine ⟨by simpa using h.len, dig_set h.dig j h0 (by omega), by omega, by omega, by rw [Int.add_mul] at h3; omega, fun i hi => ?_, ?_⟩
  · have := h.low i (by omega)
    rw [List.getD, List.getElem?_set_ne (by omega)]
    exact this
  · rw [val_set _ _ _ (by omega), hz, hs, val_take (by omega), pow_s, Int.sub_zero, Int.add_mul, Int.mul_sub, Int.mul_add, Int.mul_assoc (10000 ^ j) u B, Int.mul_assoc (10000 ^ j) 10000 R]
    omega
theorem DivI.done {la qs : List Int} {B R : Int} (h : DivI la B 0 qs R) : val qs = val la / B ∧ R = val la % B := by
  have hs := h.sum
  simp only [List.take_zero, val, Int.pow_zero, Int.one_mul, Int.zero_add] at hs
  have h0 := h.r0
  have h1 := h.r1
  have e := Int.ediv_emod_unique (a := val la) (b := B) (r := R) (q := val qs) (by omega)
  have := e.2 ⟨by rw [hs, Int.mul_comm B, Int.add_comm], h0, h1⟩
  exact ⟨this.1.symm, this.2.symm⟩
end Go.Proofs.YtaicfgimaeojbaaDoor
