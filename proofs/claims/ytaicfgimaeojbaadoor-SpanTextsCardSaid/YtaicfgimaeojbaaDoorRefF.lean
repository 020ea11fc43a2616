/-
  Plain mathematics for the given package gavotteref01: how Num.Add and Num.Sub reckon. No condition but those that each theorem states.
-/
import Derived.Test.YtaicfgimaeojbaaDoorRefD
namespace Go.Proofs.YtaicfgimaeojbaaDoor
open Go.RowKit

/-- The digit at a place, nought above the highest. -/
theorem val_take0 (l : List Int) (k : Nat) : val (l.take (k + 1)) = val (l.take k) + 10000 ^ k * l.getD k 0 := by
  rcases Nat.lt_or_ge k l.length with h | h
  · exact val_take h
  · rw [List.take_of_length_le (by omega), List.take_of_length_le (by omega)]
    have : l.getD k 0 = 0 := by simp [List.getD, List.getElem?_eq_none h]
    rw [this]; omega

structure AddI (la lb : List Int) (i : Nat) (os : List Int) (c : Int) : Prop where
  len : os.length = i
  dig : Dig os
  c0 : 0 ≤ c
  c1 : c ≤ 1
  sum : val os + 10000 ^ i * c = val (la.take i) + val (lb.take i)
  top : 0 < i → la.length ≤ i → lb.length ≤ i → 10000 ^ (i - 1) ≤ val la + val lb
theorem AddI.start (la lb : List Int) : AddI la lb 0 [] 0 := ⟨rfl, fun _ h => by simp at h, by omega, by omega, by simp [val], fun h => by omega⟩
theorem AddI.place {la lb os : List Int} {i : Nat} {c : Int} (h : AddI la lb i os c) (hla : Dig la) (hlb : Dig lb) (hg : i < la.length ∨ i < lb.length ∨ 0 < c) : i ≤ la.length + lb.length := by
  rcases Nat.lt_or_ge (la.length + lb.length) i with h1 | h1
  · have hs := h.sum
    rw [List.take_of_length_le (by omega), List.take_of_length_le (by omega)] at hs
    have b1 := val_bd la hla
    have b2 := val_bd lb hlb
    have b3 := (val_bd os h.dig).1
    have m1 := pow_mono la.length (i - 1) (by omega)
    have m2 := pow_mono lb.length (i - 1) (by omega)
    have e : (10000 : Int) ^ i = 10000 ^ (i - 1) * 10000 := by rw [← pow_s]; congr 1; omega
    have hc : 0 < c := by omega
    have hp := pow_pos' (i - 1)
    have hc1 : c = 1 := by have := h.c1; omega
    subst hc1
    rw [e] at hs
    omega
  · exact h1
theorem AddI.step {la lb os : List Int} {i : Nat} {c d : Int} (h : AddI la lb i os c) (hla : Dig la) (hlb : Dig lb) (ca : Can la) (cb : Can lb) (hg : i < la.length ∨ i < lb.length ∨ 0 < c) (hd : d = c + la.getD i 0 + lb.getD i 0) :
    AddI la lb (i + 1) (os ++ [d % 10000]) (d / 10000) := by
  have h1 := hla.at i
  have h2 := hlb.at i
  have hc0 := h.c0
  have hc1 := h.c1
  have hs := h.sum
  refine ⟨by simp [h.len], h.dig.app (Dig.one (by omega) (by omega)), by omega, by omega, ?_, fun _ k1 k2 => ?_⟩
  · rw [val_snoc, h.len, val_take0, val_take0, pow_s]
    have e3 : d % 10000 = d - 10000 * (d / 10000) := by omega
    have e4 : (10000 : Int) ^ i * d = 10000 ^ i * c + 10000 ^ i * la.getD i 0 + 10000 ^ i * lb.getD i 0 := by rw [hd, Int.mul_add, Int.mul_add]
    rw [e3, Int.mul_sub, ← Int.mul_assoc, e4]
    omega
  · rw [Nat.add_sub_cancel]
    have b1 := (val_bd la hla).1
    have b2 := (val_bd lb hlb).1
    rcases Nat.lt_or_ge i la.length with g1 | g1
    · have := can_ge la hla ca (by rintro rfl; simp at g1)
      rw [show la.length - 1 = i from by omega] at this
      omega
    · rcases Nat.lt_or_ge i lb.length with g2 | g2
      · have := can_ge lb hlb cb (by rintro rfl; simp at g2)
        rw [show lb.length - 1 = i from by omega] at this
        omega
      · have hc : c = 1 := by omega
        subst hc
        rw [List.take_of_length_le g1, List.take_of_length_le g2] at hs
        have := (val_bd os h.dig).1
        omega
theorem AddI.done {la lb os : List Int} {i : Nat} {c : Int} (h : AddI la lb i os c) (hg : ¬ (i < la.length ∨ i < lb.length ∨ 0 < c)) : Can os ∧ val os = val la + val lb := by
  have hc : c = 0 := by have := h.c0; omega
  subst hc
  have hs := h.sum
  rw [List.take_of_length_le (by omega : la.length ≤ i), List.take_of_length_le (by omega : lb.length ≤ i)] at hs
  refine ⟨?_, by omega⟩
  by_cases hn : os = []
  · subst hn; simp [Can]
  · obtain ⟨t, e, rfl⟩ := snoc_of os hn
    intro hz
    have he : e = 0 := by simpa using hz
    subst he
    have hl := h.len
    simp at hl
    have ht := h.top (by omega) (by omega) (by omega)
    rw [val_snoc] at hs
    have b := (val_bd t (fun x hx => h.dig x (List.mem_append_left _ hx))).2
    rw [show i - 1 = t.length from by omega] at ht
    omega

structure SubI (la lb : List Int) (i : Nat) (os : List Int) (c : Int) : Prop where
  len : os.length = i
  dig : Dig os
  c0 : 0 ≤ c
  c1 : c ≤ 1
  sum : val os - 10000 ^ i * c = val (la.take i) - val (lb.take i)
theorem SubI.start (la lb : List Int) : SubI la lb 0 [] 0 := ⟨rfl, fun _ h => by simp at h, by omega, by omega, by simp [val]⟩
theorem SubI.step {la lb os : List Int} {i : Nat} {c d e q : Int} (h : SubI la lb i os c) (hla : Dig la) (hlb : Dig lb) (hd : d = la.getD i 0 - c - lb.getD i 0) (he : e = if d < 0 then d + 10000 else d) (hq : q = if d < 0 then 1 else 0) :
    SubI la lb (i + 1) (os ++ [e]) q := by
  have h1 := hla.at i
  have h2 := hlb.at i
  have hc0 := h.c0
  have hc1 := h.c1
  have hs := h.sum
  have hed : e = d + 10000 * q := by rw [he, hq]; split <;> omega
  have hq1 : q = 0 ∨ q = 1 := by rw [hq]; split <;> simp
  have he1 : 0 ≤ e ∧ e < 10000 := by rw [he]; split <;> omega
  refine ⟨by simp [h.len], h.dig.app (Dig.one he1.1 he1.2), by omega, by omega, ?_⟩
  rw [val_snoc, h.len, val_take0, val_take0, pow_s]
  have e4 : (10000 : Int) ^ i * d = 10000 ^ i * la.getD i 0 - 10000 ^ i * c - 10000 ^ i * lb.getD i 0 := by rw [hd, Int.mul_sub, Int.mul_sub]
  rw [hed, Int.mul_add, e4, ← Int.mul_assoc]
  omega
theorem SubI.done {la lb os : List Int} {c : Int} (h : SubI la lb la.length os c) (hla : Dig la) (hlb : Dig lb) (cb : Can lb) (hle : val lb ≤ val la) : val os = val la - val lb := by
  have b1 := val_bd la hla
  have b2 := val_bd os h.dig
  have hs := h.sum
  rw [h.len] at b2
  have hl := can_len lb hlb cb la.length (by omega)
  rw [List.take_length, List.take_of_length_le hl] at hs
  have hc0 := h.c0
  rcases Int.lt_or_le 0 c with hc | hc
  · have hc1 : c = 1 := by have := h.c1; omega
    subst hc1
    omega
  · have : c = 0 := by omega
    subst this
    omega
end Go.Proofs.YtaicfgimaeojbaaDoor
