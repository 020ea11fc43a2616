/-
  The contract of the given package gavotteref01's Num.Mul over this seat's translation: the product. Conditions: those that each theorem states.
-/
import Derived.Test.YtaicfgimaeojbaaDoorRefC
namespace Go.Proofs.YtaicfgimaeojbaaDoor
open Go.RowKit
attribute [local go_sem ↓] Go.wp_at_zero Go.wp_at_succ

theorem dig_set {l : List Int} (h : Dig l) (j : Nat) {d : Int} (h0 : 0 ≤ d) (h1 : d < 10000) : Dig (l.set j d) := fun x hx => by
  rcases List.mem_or_eq_of_mem_set hx with h2 | rfl
  · exact h x h2
  · exact ⟨h0, h1⟩
theorem val_set : ∀ (l : List Int) (j : Nat) (d : Int), j < l.length → val (l.set j d) = val l + 10000 ^ j * (d - l.getD j 0)
  | [], _, _, h => by simp at h
  | x :: t, 0, d, _ => by simp [val]; omega
  | x :: t, j + 1, d, h => by
    have ih := val_set t j d (by simpa using h)
    simp only [List.set_cons_succ, val, ih, List.getD_cons_succ, pow_s]
    rw [Int.mul_add, Int.mul_comm (10000 ^ j) 10000, Int.mul_assoc]
    omega
theorem val_take {l : List Int} {k : Nat} (h : k < l.length) : val (l.take (k + 1)) = val (l.take k) + 10000 ^ k * l.getD k 0 := by
  rw [take_last l k h, val_snoc, List.length_take, Nat.min_eq_left (by omega)]

/-- Behind i rounds of the outer loop. -/
structure MulO (la lb : List Int) (i : Nat) (os : List Int) : Prop where
  len : os.length = la.length + lb.length + 1
  dig : Dig os
  sum : val os = val (la.take i) * val lb
/-- Behind k rounds of the inner one. -/
structure MulI (la lb : List Int) (i k : Nat) (os : List Int) (c : Int) : Prop where
  len : os.length = la.length + lb.length + 1
  dig : Dig os
  c0 : 0 ≤ c
  c1 : c ≤ 9999
  hk : k ≤ lb.length + 1
  sum : val os + 10000 ^ (i + k) * c = val (la.take i) * val lb + 10000 ^ i * (la.getD i 0 * val (lb.take k))

theorem MulO.inner {la lb os : List Int} {i : Nat} (h : MulO la lb i os) : MulI la lb i 0 os 0 :=
  ⟨h.len, h.dig, by omega, by omega, by omega, by rw [h.sum]; simp [val]⟩
theorem MulI.place {la lb os : List Int} {i k : Nat} {c : Int} (h : MulI la lb i k os c) (hb : Dig lb) (hla : Dig la) (hi : i < la.length) (hg : k < lb.length ∨ 0 < c) : k ≤ lb.length := by
  rcases hg with hg | hg
  · omega
  · rcases Nat.lt_or_ge lb.length k with h1 | h1
    · have e : lb.take k = lb := List.take_of_length_le (by omega)
      have hs := h.sum
      rw [e] at hs
      have b1 := val_bd lb hb
      have b2 := val_bd (la.take (i + 1)) (fun x hx => hla x (List.mem_of_mem_take hx))
      have e2 := val_take hi
      rw [List.length_take, Nat.min_eq_left (by omega)] at b2
      have e3 : val (la.take i) * val lb + 10000 ^ i * (la.getD i 0 * val lb) = val (la.take (i + 1)) * val lb := by rw [e2, Int.add_mul, Int.mul_assoc]
      rw [e3] at hs
      have b3 := (val_bd os h.dig).1
      have e4 : (10000 : Int) ^ (i + k) * 1 ≤ 10000 ^ (i + k) * c := Int.mul_le_mul_of_nonneg_left (by omega) (Int.le_of_lt (pow_pos' _))
      have e5 : val (la.take (i + 1)) * val lb ≤ 10000 ^ (i + 1) * val lb := Int.mul_le_mul_of_nonneg_right (by omega) b1.1
      have e6 : (10000 : Int) ^ (i + 1) * val lb < 10000 ^ (i + 1) * 10000 ^ lb.length := Int.mul_lt_mul_of_pos_left b1.2 (pow_pos' _)
      rw [← Int.pow_add] at e6
      have e7 := pow_mono (i + 1 + lb.length) (i + k) (by omega)
      omega
    · exact h1
theorem MulI.step {la lb os : List Int} {i k : Nat} {c y d : Int} (h : MulI la lb i k os c) (hla : Dig la) (hk : k ≤ lb.length) (hi : i < la.length) (hy : y = if k < lb.length then lb.getD k 0 else 0) (hb : Dig lb) (hd : d = os.getD (i + k) 0 + c + la.getD i 0 * y) :
    MulI la lb i (k + 1) (os.set (i + k) (d % 10000)) (d / 10000) := by
  have h1 := hla.at i
  have h2 := h.dig.at (i + k)
  have h3 : 0 ≤ y ∧ y < 10000 := by
    subst hy
    split
    · exact hb.at k
    · omega
  have h4 : 0 ≤ la.getD i 0 * y := Int.mul_nonneg h1.1 h3.1
  have h5 : la.getD i 0 * y ≤ 9999 * 9999 := Int.mul_le_mul (by omega) (by omega) h3.1 (by omega)
  have hc0 := h.c0
  have hc1 := h.c1
  have hl := h.len
  refine ⟨by simpa using h.len, dig_set h.dig _ (by omega) (by omega), by omega, by omega, by omega, ?_⟩
  have e1 : val (lb.take (k + 1)) = val (lb.take k) + 10000 ^ k * y := by
    subst hy
    split
    · rename_i hkl; exact val_take hkl
    · rw [List.take_of_length_le (by omega), List.take_of_length_le (by omega)]; omega
  have hs := h.sum
  rw [val_set _ _ _ (by omega), e1, show i + (k + 1) = (i + k) + 1 from by omega, pow_s, Int.mul_add (la.getD i 0), Int.mul_add (10000 ^ i), ← Int.add_assoc, ← hs]
  have e2 : (10000 : Int) ^ i * (la.getD i 0 * (10000 ^ k * y)) = 10000 ^ (i + k) * (la.getD i 0 * y) := by
    rw [Int.pow_add, Int.mul_assoc, ← Int.mul_assoc (la.getD i 0), Int.mul_comm (la.getD i 0) (10000 ^ k), Int.mul_assoc]
  rw [e2]
  have e3 : d % 10000 = d - 10000 * (d / 10000) := by omega
  rw [e3, hd]
  generalize (10000 : Int) ^ (i + k) = P
  rw [← hd]
  generalize d / 10000 = q
  rw [hd]
  generalize os.getD (i + k) 0 = o
  generalize la.getD i 0 * y = z
  rw [show o + c + z - 10000 * q - o = c + z - 10000 * q from by omega, Int.mul_sub, Int.mul_add, ← Int.mul_assoc P 10000 q]
  omega
theorem MulI.done {la lb os : List Int} {i k : Nat} (h : MulI la lb i k os 0) (hk : ¬ k < lb.length) (hi : i < la.length) : MulO la lb (i + 1) os :=
  ⟨h.len, h.dig, by
    have hs := h.sum
    rw [List.take_of_length_le (by omega : lb.length ≤ k)] at hs
    rw [val_take hi, Int.add_mul, Int.mul_assoc]
    omega⟩
theorem val_rep (n : Nat) : val (List.replicate n 0) = 0 := by
  induction n with
  | zero => rfl
  | succ n ih => rw [List.replicate_succ]; simp [val, ih]
theorem MulO.start (la lb : List Int) : MulO la lb 0 (List.replicate (la.length + lb.length + 1) 0) :=
  ⟨by simp, fun x hx => by rw [List.eq_of_mem_replicate hx]; omega, by rw [val_rep]; simp [val]⟩

theorem trim_own (v : Value) (l : List Int) (hl : l.length ≤ 1000) (B : Nat) (w : World) (h : OwnL w B v l) (hd : Dig l) :
    Calls Tryd.prog 36 #[v] w fun e w' => (∃ v', e = .returned v' ∧ NumIs w' v' (val l) ∧ New B v') ∧ w = w' := by
  obtain ⟨t1, t2, t3, k, t4⟩ := trim_all l
  obtain ⟨x, cap', hv, hx⟩ := h.num
  have hcap : l.length ≤ cap' := by
    rcases h with ⟨_, ⟨rfl, hn⟩ | ⟨g, cap, cur, rfl, _, hh, hle, _, hsz, ht⟩⟩
    · omega
    · simp at hv; omega
  have hnw : New B (.slice x (trimL l).length cap') := fun a n c e => by
    simp at e
    obtain ⟨rfl, _⟩ := e
    exact h.new a _ _ hv
  have hs : Shp (.slice x (trimL l).length cap') := by
    rcases h with ⟨_, ⟨rfl, hn⟩ | ⟨g, cap, cur, rfl, _⟩⟩
    · have e := List.eq_nil_of_length_eq_zero hn
      subst e
      simp at hv
      obtain ⟨rfl, rfl⟩ := hv
      exact Shp.nil
    · simp at hv
      obtain ⟨rfl, _⟩ := hv
      exact Shp.some _ _ _
  refine (trim_c v l hl x cap' hcap hv w hx).mono ?_
  rintro e w' ⟨rfl, rfl⟩
  refine ⟨⟨_, rfl, ⟨trimL l, ⟨x, cap', rfl, ?_⟩, t1 hd, t2, t3, hs⟩, hnw⟩, rfl⟩
  rcases hx with rfl | ⟨b, off, rfl, hc⟩
  · exact .inl rfl
  · refine .inr ⟨b, off, rfl, fun i hi => ?_⟩
    rw [t4] at hi ⊢
    rw [List.length_take] at hi
    rw [hc i (by omega)]
    simp [List.getD, show i < k from by omega]
end Go.Proofs.YtaicfgimaeojbaaDoor
