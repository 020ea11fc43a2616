/-
  Plain mathematics for the given package gavotteref01: numbers as rows of digits of base 10000, the lowest first. It speaks of no program's run. No condition but those that each theorem states.
-/
import Derived.Test.YtaicfgimaeojbaaDoorRefB
namespace Go.Proofs.YtaicfgimaeojbaaDoor
open Go.RowKit

def val : List Int → Int
  | [] => 0
  | d :: t => d + 10000 * val t
def Dig (l : List Int) : Prop := ∀ d ∈ l, 0 ≤ d ∧ d < 10000
def Can (l : List Int) : Prop := l.getLast? ≠ some 0

theorem Dig.tail {d : Int} {t : List Int} (h : Dig (d :: t)) : Dig t := fun x hx => h x (List.mem_cons_of_mem _ hx)
theorem Dig.app {l m : List Int} (h : Dig l) (k : Dig m) : Dig (l ++ m) := fun x hx => (List.mem_append.1 hx).elim (h x) (k x)
theorem Dig.one {d : Int} (h0 : 0 ≤ d) (h1 : d < 10000) : Dig [d] := fun x hx => by
  rw [List.mem_singleton] at hx; subst hx; exact ⟨h0, h1⟩
theorem Dig.at {l : List Int} (h : Dig l) (i : Nat) : 0 ≤ l.getD i 0 ∧ l.getD i 0 < 10000 := by
  by_cases hi : i < l.length
  · have e : l.getD i 0 = l[i] := by simp [List.getD, List.getElem?_eq_getElem hi]
    rw [e]
    exact h _ (List.getElem_mem hi)
  · have e : l.getD i 0 = 0 := by simp [List.getD, List.getElem?_eq_none (Nat.le_of_not_lt hi)]
    rw [e]; omega

theorem pow_pos' (k : Nat) : (0 : Int) < 10000 ^ k := Int.pow_pos (by omega)
theorem pow_s (k : Nat) : (10000 : Int) ^ (k + 1) = 10000 ^ k * 10000 := Int.pow_succ _ _

theorem val_app : ∀ (l m : List Int), val (l ++ m) = val l + 10000 ^ l.length * val m
  | [], m => by simp [val]
  | d :: t, m => by
    simp only [List.cons_append, val, val_app t m, List.length_cons, pow_s]
    rw [Int.mul_add, Int.mul_comm (10000 ^ t.length) 10000, Int.mul_assoc]
    omega
theorem val_snoc (l : List Int) (d : Int) : val (l ++ [d]) = val l + 10000 ^ l.length * d := by
  rw [val_app]
  simp [val]
theorem val_bd : ∀ l : List Int, Dig l → 0 ≤ val l ∧ val l < 10000 ^ l.length
  | [], _ => by simp [val]
  | d :: t, h => by
    have h1 := val_bd t h.tail
    have h2 := h d (List.mem_cons_self)
    simp only [val, List.length_cons, pow_s]
    omega

theorem snoc_of (l : List Int) (h : l ≠ []) : ∃ t d, l = t ++ [d] := ⟨l.dropLast, l.getLast h, (List.dropLast_concat_getLast h).symm⟩

theorem can_ge (l : List Int) (h : Dig l) (hc : Can l) (hn : l ≠ []) : 10000 ^ (l.length - 1) ≤ val l := by
  obtain ⟨t, d, rfl⟩ := snoc_of l hn
  have h1 := val_bd t (fun x hx => h x (List.mem_append_left _ hx))
  have h2 := h d (List.mem_append_right _ (List.mem_singleton.2 rfl))
  have h3 : d ≠ 0 := by
    intro e
    apply hc
    simp [e]
  rw [val_snoc]
  simp only [List.length_append, List.length_singleton, Nat.add_sub_cancel]
  have hp := pow_pos' t.length
  have : 10000 ^ t.length * 1 ≤ 10000 ^ t.length * d := Int.mul_le_mul_of_nonneg_left (by omega) (by omega)
  omega
theorem can_nil (l : List Int) (h : Dig l) (hc : Can l) : val l = 0 ↔ l = [] := by
  constructor
  · intro e
    by_cases hn : l = []
    · exact hn
    · have := can_ge l h hc hn
      have := pow_pos' (l.length - 1)
      omega
  · rintro rfl; rfl

theorem pow_mono (a b : Nat) (h : a ≤ b) : (10000 : Int) ^ a ≤ 10000 ^ b := by
  obtain ⟨k, rfl⟩ := Nat.exists_eq_add_of_le h
  induction k with
  | zero => exact Int.le_refl _
  | succ k ih =>
    have := ih (by omega)
    rw [show a + (k + 1) = (a + k) + 1 from by omega, pow_s]
    have := pow_pos' (a + k)
    omega

theorem can_len (l : List Int) (h : Dig l) (hc : Can l) (k : Nat) (hv : val l < 10000 ^ k) : l.length ≤ k := by
  by_cases hn : l = []
  · subst hn; exact Nat.zero_le _
  · have h1 := can_ge l h hc hn
    rcases Nat.lt_or_ge k l.length with h2 | h2
    · have := pow_mono k (l.length - 1) (by omega)
      omega
    · exact h2

theorem cmpTo_val (la lb : List Int) (ha : Dig la) (hb : Dig lb) : ∀ k, k ≤ la.length → k ≤ lb.length → cmpTo la lb k = sgn (val (la.take k)) (val (lb.take k))
  | 0, _, _ => by simp [cmpTo, val, sgn_eq]
  | k + 1, h1, h2 => by
    have ih := cmpTo_val la lb ha hb k (by omega) (by omega)
    rw [take_last la k (by omega), take_last lb k (by omega), val_snoc, val_snoc, List.length_take, List.length_take, Nat.min_eq_left (by omega), Nat.min_eq_left (by omega)]
    have b1 := val_bd (la.take k) (fun x hx => ha x (List.mem_of_mem_take hx))
    have b2 := val_bd (lb.take k) (fun x hx => hb x (List.mem_of_mem_take hx))
    rw [List.length_take, Nat.min_eq_left (by omega)] at b1 b2
    have hp := pow_pos' k
    generalize (10000 : Int) ^ k = P at *
    generalize val (la.take k) = A at *
    generalize val (lb.take k) = B at *
    rcases Int.lt_trichotomy (la.getD k 0) (lb.getD k 0) with h | h | h
    · rw [cmpTo_lt h, sgn_lt]
      have : P * (la.getD k 0 + 1) ≤ P * lb.getD k 0 := Int.mul_le_mul_of_nonneg_left (by omega) (by omega)
      rw [Int.mul_add] at this
      omega
    · rw [cmpTo_eq h, ih, h]
      unfold sgn
      (repeat' split) <;> omega
    · rw [cmpTo_gt h, sgn_gt]
      have : P * (lb.getD k 0 + 1) ≤ P * la.getD k 0 := Int.mul_le_mul_of_nonneg_left (by omega) (by omega)
      rw [Int.mul_add] at this
      omega

theorem cmpL_val (la lb : List Int) (ha : Dig la) (hb : Dig lb) (ca : Can la) (cb : Can lb) : cmpL la lb = sgn (val la) (val lb) := by
  have lt_of : ∀ l m : List Int, Dig l → Dig m → Can m → l.length < m.length → val l < val m := by
    intro l m hl hm cm h
    have h1 := val_bd l hl
    have h2 := can_ge m hm cm (by rintro rfl; simp at h)
    have h3 := pow_mono l.length (m.length - 1) (by omega)
    omega
  unfold cmpL
  by_cases h1 : la.length < lb.length
  · rw [if_pos h1, sgn_lt (lt_of la lb ha hb cb h1)]
  · rw [if_neg h1]
    by_cases h2 : lb.length < la.length
    · rw [if_pos h2, sgn_gt (lt_of lb la hb ha ca h2)]
    · rw [if_neg h2, cmpTo_val la lb ha hb la.length (Nat.le_refl _) (by omega), List.take_length, List.take_of_length_le (by omega)]

theorem trimL_snoc (l : List Int) (d : Int) : trimL (l ++ [d]) = if d = 0 then trimL l else l ++ [d] := by
  by_cases h : d = 0
  · subst h; rw [if_pos rfl, trimL_zero]
  · rw [if_neg h, trimL_ne _ _ h]
theorem trim_all (l : List Int) : (Dig l → Dig (trimL l)) ∧ Can (trimL l) ∧ val (trimL l) = val l ∧ ∃ k, trimL l = l.take k := by
  induction hn : l.length generalizing l with
  | zero =>
    have : l = [] := List.eq_nil_of_length_eq_zero hn
    subst this
    exact ⟨fun h => h, by simp [trimL, Can], rfl, 0, rfl⟩
  | succ n ih =>
    obtain ⟨t, d, rfl⟩ := snoc_of l (by rintro rfl; simp at hn)
    simp at hn
    obtain ⟨i1, i2, i3, k, i4⟩ := ih t hn
    rw [trimL_snoc]
    by_cases h : d = 0
    · rw [if_pos h]
      subst h
      refine ⟨fun hd => i1 fun x hx => hd x (List.mem_append_left _ hx), i2, by rw [i3, val_snoc]; omega, min k t.length, ?_⟩
      rw [i4, List.take_append_of_le_length (Nat.min_le_right _ _)]
      rcases Nat.le_total k t.length with h | h
      · rw [Nat.min_eq_left h]
      · rw [Nat.min_eq_right h, List.take_of_length_le h, List.take_length]
    · rw [if_neg h]
      exact ⟨fun hd => hd, by simp [Can, h], rfl, (t ++ [d]).length, by rw [List.take_length]⟩

/-- A slice without a row has no room. -/
def Shp (v : Value) : Prop := ∀ n c, v = .slice none n c → n = 0 ∧ c = 0
theorem Shp.nil : Shp (.slice none 0 0) := fun n c h => by simp at h; omega
theorem Shp.some (a : Addr) (n c : Nat) : Shp (.slice (some a) n c) := fun _ _ h => by simp at h
/-- A number in memory. -/
def NumIs (w : World) (v : Value) (N : Int) : Prop := ∃ l, NumAt w v l ∧ Dig l ∧ Can l ∧ val l = N ∧ Shp v
theorem NumIs.keep {w w' : World} {v : Value} {N : Int} (k : NumIs w v N) (h : Below w.heap.size w w') : NumIs w' v N := by
  obtain ⟨l, h1, h2⟩ := k
  exact ⟨l, h1.keep h, h2⟩
theorem NumIs.nonneg {w : World} {v : Value} {N : Int} (k : NumIs w v N) : 0 ≤ N := by
  obtain ⟨l, _, h2, _, rfl, _⟩ := k
  exact (val_bd l h2).1

theorem numcmp_c (va vb : Value) (A B : Int) (w : World) (na : NumIs w va A) (nb : NumIs w vb B) (hA : A < 10000 ^ 100) :
    Calls Tryd.prog 18 #[va, vb] w fun e w' => e = .returned (.int .i64 (sgn A B)) ∧ Below w.heap.size w w' := by
  obtain ⟨la, a1, a2, a3, rfl, _⟩ := na
  obtain ⟨lb, b1, b2, b3, rfl, _⟩ := nb
  rw [← cmpL_val la lb a2 b2 a3 b3]
  exact ncmp_c va vb la lb (by have := can_len la a2 a3 100 hA; omega) w a1 b1
end Go.Proofs.YtaicfgimaeojbaaDoor
