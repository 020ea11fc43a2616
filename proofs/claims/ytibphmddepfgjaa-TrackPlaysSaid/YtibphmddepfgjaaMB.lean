/-
  Several texts in one: RefA RefB RefM RefC RefD RefE RefF RefG RefH RefI RefJ RefK.
-/
import Derived.Test.YtibphmddepfgjaaMA
import Derived.OwnWalk
import Derived.Deep.DeepCutAuto
import Derived.Laws.AppendOwnNone
import Derived.Deep.LoopGhost

/-
  The contracts of the given package gavotteref01's numbers over this seat's translation, first part: how they lie in memory; Num.Cmp. Conditions: those that each theorem states.
-/
namespace Go.Proofs.Ytibphmddepfgjaa
open Go.RowKit
attribute [local go_sem ↓] Go.wp_at_zero Go.wp_at_succ

/-- A slice of ints that is read: its cells hold l. -/
def NumAt (w : World) (v : Value) (l : List Int) : Prop :=
  ∃ (x : Option Addr) (cap : Nat), v = .slice x l.length cap ∧ (l = [] ∨ ∃ b off, x = some ⟨b, off, none⟩ ∧ ∀ i, i < l.length → w.cell? ⟨b, off + i, none⟩ = some (.int .i64 (l.getD i 0)))
theorem NumAt.keep {w w' : World} {v : Value} {l : List Int} (k : NumAt w v l) (h : Below w.heap.size w w') : NumAt w' v l := by
  obtain ⟨x, cap, hv, hx⟩ := k
  refine ⟨x, cap, hv, ?_⟩
  rcases hx with hx | ⟨b, off, hx, hc⟩
  · exact .inl hx
  · exact .inr ⟨b, off, hx, fun i hi => keepc h (hc i hi)⟩

/-- How two digits rows of one length stand to each other, from place k - 1 down. -/
def cmpTo (la lb : List Int) : Nat → Int
  | 0 => 0
  | k + 1 => if la.getD k 0 < lb.getD k 0 then -1 else if lb.getD k 0 < la.getD k 0 then 1 else cmpTo la lb k
def cmpL (la lb : List Int) : Int := if la.length < lb.length then -1 else if lb.length < la.length then 1 else cmpTo la lb la.length

theorem ncmp_len (x y : Option Addr) (n m cap cap' : Nat) (hne : ¬ n = m) (w : World) :
    Calls Try.prog 49 #[.slice x n cap, .slice y m cap'] w fun e w' => e = .returned (.int .i64 (if n < m then -1 else 1)) ∧ Below w.heap.size w w' := by
  have h2 : ((n : Int) == (m : Int)) = false := by simp; omega
  by_cases h : n < m
  · rw [if_pos h]
    have h3 : (n : Int) < (m : Int) := by omega
    go_enter Try.func49, Try.ntmps49
    go_wp2
    go_ret
    exact ⟨rfl, Below.refl _ _⟩
  · rw [if_neg h]
    have h3 : ¬ (n : Int) < (m : Int) := by omega
    go_enter Try.func49, Try.ntmps49
    go_wp2
    go_ret
    exact ⟨rfl, Below.refl _ _⟩

theorem ncmp_zero (x y : Option Addr) (cap cap' : Nat) (w : World) :
    Calls Try.prog 49 #[.slice x 0 cap, .slice y 0 cap'] w fun e w' => e = .returned (.int .i64 0) ∧ Below w.heap.size w w' := by
  go_enter Try.func49, Try.ntmps49
  go_wp2
  refine wp_loop_rounds 1 ?_
  rw [rounds_succ]
  go_wp2
  go_ret
  exact ⟨rfl, Below.refl _ _⟩

theorem cmpTo_lt {la lb : List Int} {k : Nat} (h : la.getD k 0 < lb.getD k 0) : cmpTo la lb (k + 1) = -1 := by simp only [cmpTo]; rw [if_pos h]
theorem cmpTo_gt {la lb : List Int} {k : Nat} (h : lb.getD k 0 < la.getD k 0) : cmpTo la lb (k + 1) = 1 := by simp only [cmpTo]; rw [if_neg (by omega), if_pos h]
theorem cmpTo_eq {la lb : List Int} {k : Nat} (h : la.getD k 0 = lb.getD k 0) : cmpTo la lb (k + 1) = cmpTo la lb k := by simp only [cmpTo]; rw [if_neg (by omega), if_neg (by omega)]

set_option maxHeartbeats 1000000 in
theorem ncmp_eq (b off b' off' n cap cap' : Nat) (f g : Nat → Int) (C : Nat → Int) (hC0 : C 0 = 0) (hlt : ∀ k, f k < g k → C (k + 1) = -1) (hgt : ∀ k, g k < f k → C (k + 1) = 1) (heq : ∀ k, f k = g k → C (k + 1) = C k) (hn : n ≤ 1000) (w : World)
    (hf : ∀ i, i < n → w.cell? ⟨b, off + i, none⟩ = some (.int .i64 (f i))) (hg : ∀ i, i < n → w.cell? ⟨b', off' + i, none⟩ = some (.int .i64 (g i))) :
    Calls Try.prog 49 #[.slice (some ⟨b, off, none⟩) n cap, .slice (some ⟨b', off', none⟩) n cap'] w fun e w' => e = .returned (.int .i64 (C n)) ∧ Below w.heap.size w w' := by
  have HF := Lib.hid hf
  have HG := Lib.hid hg
  have H0 := Lib.hid hC0
  have HL := Lib.hid hlt
  have HR := Lib.hid hgt
  have HE := Lib.hid heq
  clear hf hg hC0 hlt hgt heq
  go_enter Try.func49, Try.ntmps49
  go_wp2
  go_loopw [5] (fun vi wr => ∃ k : Nat, vi = .int .i64 ((k : Int) - 1) ∧ k ≤ n ∧ C k = C n ∧ Below w.heap.size w wr) (fun vi _ => (intOf vi + 1).toNat)
  case atStart => exact ⟨n, rfl, Nat.le_refl _, rfl, Below.refl _ _⟩
  case round =>
    obtain ⟨k, rfl, hk, hck, hbl⟩ := hrel
    have HCK := Lib.hid hck
    clear hck
    cases k with
    | zero =>
      rw [show ((0 : Nat) : Int) - 1 = -1 from rfl]
      clear hk
      go_wp2
      go_ret
      exact ⟨ret_int (by rw [← HCK.out, H0.out]), hbl⟩
    | succ j =>
      rw [show ((j + 1 : Nat) : Int) - 1 = (j : Int) from by omega]
      have hjn : (j : Int) < (n : Int) := by omega
      have hj0 : (0 : Int) ≤ (j : Int) := by omega
      have c1 := keepc hbl (HF.out j (by omega))
      have c2 := keepc hbl (HG.out j (by omega))
      have hl := HL.out j
      have hr := HR.out j
      have he := HE.out j
      generalize f j = x at *
      generalize g j = y at *
      have HL2 := Lib.hid hl
      have HR2 := Lib.hid hr
      have HE2 := Lib.hid he
      clear hl hr he
      rcases Int.lt_trichotomy x y with h | h | h
      · go_wp2_with fail
        go_quiet (fail)
        go_wp2
        go_ret
        exact ⟨ret_int (by rw [← HCK.out, HL2.out h]), belowN hbl _⟩
      · subst h
        go_wp2_with fail
        go_quiet (fail)
        go_wp2_with fail
        go_quiet (fail)
        go_wp2
        go_roundw
        case rel => exact ⟨j, by simp, by omega, by rw [← HCK.out, HE2.out trivial], by repeat (first | assumption | refine belowN ?_ _)⟩
        case measure => simp [intOf]
      · go_wp2_with fail
        go_quiet (fail)
        go_wp2_with fail
        go_quiet (fail)
        go_wp2
        go_ret
        exact ⟨ret_int (by rw [← HCK.out, HR2.out h]), by repeat (first | assumption | refine belowN ?_ _)⟩

theorem ncmp_c (va vb : Value) (la lb : List Int) (ha : la.length ≤ 1000) (w : World) (na : NumAt w va la) (nb : NumAt w vb lb) :
    Calls Try.prog 49 #[va, vb] w fun e w' => e = .returned (.int .i64 (cmpL la lb)) ∧ Below w.heap.size w w' := by
  obtain ⟨x, cap, rfl, hx⟩ := na
  obtain ⟨y, cap', rfl, hy⟩ := nb
  unfold cmpL
  by_cases hl : la.length = lb.length
  · rw [if_neg (by omega), if_neg (by omega)]
    rcases hx with rfl | ⟨b, off, rfl, hc⟩
    · simp only [List.length_nil] at hl ⊢
      rw [← hl]
      exact ncmp_zero x y cap cap' w
    · rcases hy with rfl | ⟨b', off', rfl, hc'⟩
      · simp only [List.length_nil] at hl ⊢
        rw [hl]
        exact ncmp_zero _ y cap cap' w
      · rw [← hl] at hc' ⊢
        exact ncmp_eq b off b' off' la.length cap cap' (fun i => la.getD i 0) (fun i => lb.getD i 0) (cmpTo la lb) rfl (fun _ h => cmpTo_lt h) (fun _ h => cmpTo_gt h) (fun _ h => cmpTo_eq h) ha w hc hc'
  · have := ncmp_len x y la.length lb.length cap cap' hl w
    by_cases h : la.length < lb.length
    · rw [if_pos h] at this ⊢; exact this
    · rw [if_neg h] at this ⊢; rw [if_pos (by omega)]; exact this
end Go.Proofs.Ytibphmddepfgjaa

/-
  The contracts of the given package gavotteref01's numbers over this seat's translation, second part: trim, From. Conditions: those that each theorem states.
-/
namespace Go.Proofs.Ytibphmddepfgjaa
open Go.RowKit
attribute [local go_sem ↓] Go.wp_at_zero Go.wp_at_succ

/-- A row without the noughts on top. -/
def trimL (l : List Int) : List Int := (l.reverse.dropWhile (· == 0)).reverse

theorem trimL_nil : trimL [] = [] := rfl
theorem trimL_zero (l : List Int) : trimL (l ++ [0]) = trimL l := by simp [trimL]
theorem trimL_ne (l : List Int) (d : Int) (h : ¬ d = 0) : trimL (l ++ [d]) = l ++ [d] := by simp [trimL, h]

def lenOf : Value → Nat | .slice _ n _ => n | _ => 0

theorem take_last (l : List Int) (k : Nat) (h : k < l.length) : l.take (k + 1) = l.take k ++ [l.getD k 0] := by
  rw [List.take_succ_eq_append_getElem h]
  simp [List.getD, List.getElem?_eq_getElem h]

theorem trim_len (l : List Int) (n : Nat) : (trimL (l.take n)).length ≤ l.length := by
  have h : (trimL (l.take n)).length ≤ (l.take n).length := by
    unfold trimL
    rw [List.length_reverse]
    have := (List.dropWhile_sublist (l := (l.take n).reverse) (· == 0)).length_le
    rw [List.length_reverse] at this
    exact this
  have := List.length_take_le n l
  have h2 : (l.take n).length ≤ l.length := by rw [List.length_take]; omega
  omega

set_option maxHeartbeats 1000000 in
theorem trim_p (b off cap : Nat) (l : List Int) (hl : l.length ≤ 1000) (hcap : l.length ≤ cap) (w : World) (hc : ∀ i, i < l.length → w.cell? ⟨b, off + i, none⟩ = some (.int .i64 (l.getD i 0))) :
    Calls Try.prog 62 #[.slice (some ⟨b, off, none⟩) l.length cap] w fun e w' => e = .returned (.slice (some ⟨b, off, none⟩) (trimL l).length cap) ∧ w = w' := by
  have HC := Lib.hid hc
  clear hc
  go_enter Try.func62, Try.ntmps62
  go_wp2
  go_loop [0] (fun vs => ∃ k : Nat, vs = .slice (some ⟨b, off, none⟩) k cap ∧ k ≤ l.length ∧ trimL (l.take k) = trimL l) (fun vs => lenOf vs)
  case atStart => exact ⟨l.length, rfl, Nat.le_refl _, by rw [List.take_length]⟩
  case round =>
    obtain ⟨k, rfl, hk, ht⟩ := hrel
    have HT := Lib.hid ht
    clear ht
    cases k with
    | zero =>
      have e : trimL l = [] := by rw [← HT.out]; simp [trimL]
      have E := Lib.hid e
      clear e
      go_wp2
      go_ret
      exact ⟨by rw [E.out]; rfl, rfl⟩
    | succ j =>
      have c1 := HC.out j (by omega)
      by_cases h : l.getD j 0 = 0
      · have e : trimL (l.take j) = trimL l := by rw [← HT.out, take_last l j (by omega), h, trimL_zero]
        have E := Lib.hid e
        rw [h] at c1
        clear e h
        go_wp2
        go_round
        case rel => exact ⟨j, rfl, by omega, E.out⟩
        case measure => simp [lenOf]
      · have e : (trimL l).length = j + 1 := by
          rw [← HT.out, take_last l j (by omega), trimL_ne _ _ h, ← take_last l j (by omega), List.length_take]
          omega
        have E := Lib.hid e
        have h2 : (l.getD j 0 == 0) = false := by simpa using h
        clear e h
        generalize l.getD j 0 = d at c1 h2
        go_wp2
        go_ret
        exact ⟨by rw [E.out]; rfl, rfl⟩

theorem trim_c (v : Value) (l : List Int) (hl : l.length ≤ 1000) (x : Option Addr) (cap : Nat) (hcap : l.length ≤ cap) (hv : v = .slice x l.length cap) (w : World) (hx : l = [] ∨ ∃ b off, x = some ⟨b, off, none⟩ ∧ ∀ i, i < l.length → w.cell? ⟨b, off + i, none⟩ = some (.int .i64 (l.getD i 0))) :
    Calls Try.prog 62 #[v] w fun e w' => e = .returned (.slice x (trimL l).length cap) ∧ w = w' := by
  subst hv
  rcases hx with rfl | ⟨b, off, rfl, hc⟩
  · go_enter Try.func62, Try.ntmps62
    go_wp2
    refine wp_loop_rounds 1 ?_
    rw [rounds_succ]
    go_wp2
    go_ret
    exact ⟨rfl, rfl⟩
  · exact trim_p b off cap l hl hcap w hc
end Go.Proofs.Ytibphmddepfgjaa

/-
  Plain mathematics for the given package gavotteref01: numbers as rows of digits of base 10000, the lowest first. It speaks of no program's run. No condition but those that each theorem states.
-/
namespace Go.Proofs.Ytibphmddepfgjaa
open Go.RowKit

def val : List Int → Int
  | [] => 0
  | d :: t => d + 10000 * val t
def Dig (l : List Int) : Prop := ∀ d ∈ l, 0 ≤ d ∧ d < 10000
def Can (l : List Int) : Prop := l.getLast? ≠ some 0

theorem Dig.tail {d : Int} {t : List Int} (h : Dig (d :: t)) : Dig t := fun x hx => h x (List.mem_cons_of_mem _ hx)
theorem Dig.app {l m : List Int} (h : Dig l) (k : Dig m) : Dig (l ++ m) := fun x hx => (List.mem_append.1 hx).elim (h x) (k x)
theorem Dig.one {d : Int} (h0 : 0 ≤ d) (h1 : d < 10000) : Dig [d] := fun x hx => by
  rw [List.mem_singleton] at hx; subst hx; exact ⟨h0, h1⟩
theorem Dig.at {l : List Int} (h : Dig l) (i : Nat) : 0 ≤ l.getD i 0 ∧ l.getD i 0 < 10000 := by
  by_cases hi : i < l.length
  · have e : l.getD i 0 = l[i] := by simp [List.getD, List.getElem?_eq_getElem hi]
    rw [e]
    exact h _ (List.getElem_mem hi)
  · have e : l.getD i 0 = 0 := by simp [List.getD, List.getElem?_eq_none (Nat.le_of_not_lt hi)]
    rw [e]; omega

theorem pow_pos' (k : Nat) : (0 : Int) < 10000 ^ k := Int.pow_pos (by omega)
theorem pow_s (k : Nat) : (10000 : Int) ^ (k + 1) = 10000 ^ k * 10000 := Int.pow_succ _ _

theorem val_app : ∀ (l m : List Int), val (l ++ m) = val l + 10000 ^ l.length * val m
  | [], m => by simp [val]
  | d :: t, m => by
    simp only [List.cons_append, val, val_app t m, List.length_cons, pow_s]
    rw [Int.mul_add, Int.mul_comm (10000 ^ t.length) 10000, Int.mul_assoc]
    omega
theorem val_snoc (l : List Int) (d : Int) : val (l ++ [d]) = val l + 10000 ^ l.length * d := by
  rw [val_app]
  simp [val]
theorem val_bd : ∀ l : List Int, Dig l → 0 ≤ val l ∧ val l < 10000 ^ l.length
  | [], _ => by simp [val]
  | d :: t, h => by
    have h1 := val_bd t h.tail
    have h2 := h d (List.mem_cons_self)
    simp only [val, List.length_cons, pow_s]
    omega

theorem snoc_of (l : List Int) (h : l ≠ []) : ∃ t d, l = t ++ [d] := ⟨l.dropLast, l.getLast h, (List.dropLast_concat_getLast h).symm⟩

theorem can_ge (l : List Int) (h : Dig l) (hc : Can l) (hn : l ≠ []) : 10000 ^ (l.length - 1) ≤ val l := by
  obtain ⟨t, d, rfl⟩ := snoc_of l hn
  have h1 := val_bd t (fun x hx => h x (List.mem_append_left _ hx))
  have h2 := h d (List.mem_append_right _ (List.mem_singleton.2 rfl))
  have h3 : d ≠ 0 := by
    intro e
    apply hc
    simp [e]
  rw [val_snoc]
  simp only [List.length_append, List.length_singleton, Nat.add_sub_cancel]
  have hp := pow_pos' t.length
  have : 10000 ^ t.length * 1 ≤ 10000 ^ t.length * d := Int.mul_le_mul_of_nonneg_left (by omega) (by omega)
  omega
theorem can_nil (l : List Int) (h : Dig l) (hc : Can l) : val l = 0 ↔ l = [] := by
  constructor
  · intro e
    by_cases hn : l = []
    · exact hn
    · have := can_ge l h hc hn
      have := pow_pos' (l.length - 1)
      omega
  · rintro rfl; rfl

theorem pow_mono (a b : Nat) (h : a ≤ b) : (10000 : Int) ^ a ≤ 10000 ^ b := by
  obtain ⟨k, rfl⟩ := Nat.exists_eq_add_of_le h
  induction k with
  | zero => exact Int.le_refl _
  | succ k ih =>
    have := ih (by omega)
    rw [show a + (k + 1) = (a + k) + 1 from by omega, pow_s]
    have := pow_pos' (a + k)
    omega

theorem can_len (l : List Int) (h : Dig l) (hc : Can l) (k : Nat) (hv : val l < 10000 ^ k) : l.length ≤ k := by
  by_cases hn : l = []
  · subst hn; exact Nat.zero_le _
  · have h1 := can_ge l h hc hn
    rcases Nat.lt_or_ge k l.length with h2 | h2
    · have := pow_mono k (l.length - 1) (by omega)
      omega
    · exact h2

theorem cmpTo_val (la lb : List Int) (ha : Dig la) (hb : Dig lb) : ∀ k, k ≤ la.length → k ≤ lb.length → cmpTo la lb k = sgn (val (la.take k)) (val (lb.take k))
  | 0, _, _ => by simp [cmpTo, val, sgn_eq]
  | k + 1, h1, h2 => by
    have ih := cmpTo_val la lb ha hb k (by omega) (by omega)
    rw [take_last la k (by omega), take_last lb k (by omega), val_snoc, val_snoc, List.length_take, List.length_take, Nat.min_eq_left (by omega), Nat.min_eq_left (by omega)]
    have b1 := val_bd (la.take k) (fun x hx => ha x (List.mem_of_mem_take hx))
    have b2 := val_bd (lb.take k) (fun x hx => hb x (List.mem_of_mem_take hx))
    rw [List.length_take, Nat.min_eq_left (by omega)] at b1 b2
    have hp := pow_pos' k
    generalize (10000 : Int) ^ k = P at *
    generalize val (la.take k) = A at *
    generalize val (lb.take k) = B at *
    rcases Int.lt_trichotomy (la.getD k 0) (lb.getD k 0) with h | h | h
    · rw [cmpTo_lt h, sgn_lt]
      have : P * (la.getD k 0 + 1) ≤ P * lb.getD k 0 := Int.mul_le_mul_of_nonneg_left (by omega) (by omega)
      rw [Int.mul_add] at this
      omega
    · rw [cmpTo_eq h, ih, h]
      unfold sgn
      (repeat' split) <;> omega
    · rw [cmpTo_gt h, sgn_gt]
      have : P * (lb.getD k 0 + 1) ≤ P * la.getD k 0 := Int.mul_le_mul_of_nonneg_left (by omega) (by omega)
      rw [Int.mul_add] at this
      omega

theorem cmpL_val (la lb : List Int) (ha : Dig la) (hb : Dig lb) (ca : Can la) (cb : Can lb) : cmpL la lb = sgn (val la) (val lb) := by
  have lt_of : ∀ l m : List Int, Dig l → Dig m → Can m → l.length < m.length → val l < val m := by
    intro l m hl hm cm h
    have h1 := val_bd l hl
    have h2 := can_ge m hm cm (by rintro rfl; simp at h)
    have h3 := pow_mono l.length (m.length - 1) (by omega)
    omega
  unfold cmpL
  by_cases h1 : la.length < lb.length
  · rw [if_pos h1, sgn_lt (lt_of la lb ha hb cb h1)]
  · rw [if_neg h1]
    by_cases h2 : lb.length < la.length
    · rw [if_pos h2, sgn_gt (lt_of lb la hb ha ca h2)]
    · rw [if_neg h2, cmpTo_val la lb ha hb la.length (Nat.le_refl _) (by omega), List.take_length, List.take_of_length_le (by omega)]

theorem trimL_snoc (l : List Int) (d : Int) : trimL (l ++ [d]) = if d = 0 then trimL l else l ++ [d] := by
  by_cases h : d = 0
  · subst h; rw [if_pos rfl, trimL_zero]
  · rw [if_neg h, trimL_ne _ _ h]
theorem trim_all (l : List Int) : (Dig l → Dig (trimL l)) ∧ Can (trimL l) ∧ val (trimL l) = val l ∧ ∃ k, trimL l = l.take k := by
  induction hn : l.length generalizing l with
  | zero =>
    have : l = [] := List.eq_nil_of_length_eq_zero hn
    subst this
    exact ⟨fun h => h, by simp [trimL, Can], rfl, 0, rfl⟩
  | succ n ih =>
    obtain ⟨t, d, rfl⟩ := snoc_of l (by rintro rfl; simp at hn)
    simp at hn
    obtain ⟨i1, i2, i3, k, i4⟩ := ih t hn
    rw [trimL_snoc]
    by_cases h : d = 0
    · rw [if_pos h]
      subst h
      refine ⟨fun hd => i1 fun x hx => hd x (List.mem_append_left _ hx), i2, by rw [i3, val_snoc]; omega, min k t.length, ?_⟩
      rw [i4, List.take_append_of_le_length (Nat.min_le_right _ _)]
      rcases Nat.le_total k t.length with h | h
      · rw [Nat.min_eq_left h]
      · rw [Nat.min_eq_right h, List.take_of_length_le h, List.take_length]
    · rw [if_neg h]
      exact ⟨fun hd => hd, by simp [Can, h], rfl, (t ++ [d]).length, by rw [List.take_length]⟩

/-- A slice without a row has no room. -/
def Shp (v : Value) : Prop := ∀ n c, v = .slice none n c → n = 0 ∧ c = 0
theorem Shp.nil : Shp (.slice none 0 0) := fun n c h => by simp at h; omega
theorem Shp.some (a : Addr) (n c : Nat) : Shp (.slice (some a) n c) := fun _ _ h => by simp at h
/-- A number in memory. -/
def NumIs (w : World) (v : Value) (N : Int) : Prop := ∃ l, NumAt w v l ∧ Dig l ∧ Can l ∧ val l = N ∧ Shp v
theorem NumIs.keep {w w' : World} {v : Value} {N : Int} (k : NumIs w v N) (h : Below w.heap.size w w') : NumIs w' v N := by
  obtain ⟨l, h1, h2⟩ := k
  exact ⟨l, h1.keep h, h2⟩
theorem NumIs.nonneg {w : World} {v : Value} {N : Int} (k : NumIs w v N) : 0 ≤ N := by
  obtain ⟨l, _, h2, _, rfl, _⟩ := k
  exact (val_bd l h2).1

theorem numcmp_c (va vb : Value) (A B : Int) (w : World) (na : NumIs w va A) (nb : NumIs w vb B) (hA : A < 10000 ^ 100) :
    Calls Try.prog 49 #[va, vb] w fun e w' => e = .returned (.int .i64 (sgn A B)) ∧ Below w.heap.size w w' := by
  obtain ⟨la, a1, a2, a3, rfl, _⟩ := na
  obtain ⟨lb, b1, b2, b3, rfl, _⟩ := nb
  rw [← cmpL_val la lb a2 b2 a3 b3]
  exact ncmp_c va vb la lb (by have := can_len la a2 a3 100 hA; omega) w a1 b1
end Go.Proofs.Ytibphmddepfgjaa

/-
  The contract of the given package gavotteref01's From over this seat's translation: the number of an int from nought on. Conditions: those that each theorem states.
-/
namespace Go.Proofs.Ytibphmddepfgjaa
open Go.RowKit
attribute [local go_sem ↓] Go.wp_at_zero Go.wp_at_succ

theorem infoInt : (Try.prog.info? 3).map (fun i => (i.zero, i.size, i.bytes)) = some (some (.int .i64 0), 1, 8) := by kernel_rfl

/-- A row of the call's own holds l. -/
def OwnL (w : World) (B : Nat) (v : Value) (l : List Int) : Prop := w.ownsRow B 3 1 v l.length (l.map (Value.int .i64))
theorem OwnL.num {w : World} {B : Nat} {v : Value} {l : List Int} (h : OwnL w B v l) : NumAt w v l := by
  rcases h with ⟨_, ⟨rfl, hn⟩ | ⟨g, cap, cur, rfl, _, hh, hle, _, hsz, ht⟩⟩
  · exact ⟨none, 0, by rw [hn], .inl (List.eq_nil_of_length_eq_zero hn)⟩
  · refine ⟨some ⟨g, 0, none⟩, cap, rfl, .inr ⟨g, 0, rfl, fun i hi => ?_⟩⟩
    have hc := World.ownsRow.cellAt (w := w) (base := B) (e := 3) (size := 1) (g := g) (cap := cap) (n := l.length) (xs := l.map (Value.int .i64)) ⟨by simp, .inr ⟨g, cap, cur, rfl, by assumption, hh, hle, by assumption, hsz, ht⟩⟩ i (by omega)
    rw [Nat.zero_add, hc]
    simp [List.getD, List.getElem?_eq_getElem hi]

theorem OwnL.shp {w : World} {B : Nat} {v : Value} {l : List Int} (h : OwnL w B v l) : Shp v := by
  rcases h with ⟨_, ⟨rfl, _⟩ | ⟨g, cap, cur, rfl, _⟩⟩
  · exact Shp.nil
  · exact Shp.some _ _ _
/-- A slice whose row is new since the heap had B blocks. -/
def New (B : Nat) (v : Value) : Prop := ∀ a n c, v = .slice (some a) n c → B ≤ a.block
theorem New.nil (B : Nat) (n c : Nat) : New B (.slice none n c) := fun _ _ _ h => by simp at h
theorem New.mono {B C : Nat} {v : Value} (h : New B v) (k : C ≤ B) : New C v := fun a n c e => Nat.le_trans k (h a n c e)
theorem OwnL.new {w : World} {B : Nat} {v : Value} {l : List Int} (h : OwnL w B v l) : New B v := by
  rcases h with ⟨_, ⟨rfl, _⟩ | ⟨g, cap, cur, rfl, hg, _⟩⟩
  · exact New.nil _ _ _
  · intro a n c e
    simp at e
    obtain ⟨rfl, _⟩ := e
    exact hg
theorem NumIs.set {w : World} {v : Value} {N : Int} (h : NumIs w v N) {g : Nat} (hn : New (g + 1) v) (o : Nat) (u : Value) : NumIs (w.setCell ⟨g, o, none⟩ u) v N := by
  obtain ⟨l, ⟨x, c, rfl, hx⟩, r⟩ := h
  refine ⟨l, ⟨x, c, rfl, ?_⟩, r⟩
  rcases hx with hx | ⟨b, off, rfl, hc⟩
  · exact .inl hx
  · have hb := hn _ _ _ rfl
    simp at hb
    refine .inr ⟨b, off, rfl, fun i hi => ?_⟩
    rw [World.cell?_setCell_other _ _ _ _ (fun e => by have := congrArg Addr.block e; simp at this; omega)]
    exact hc i hi
theorem from_len (m n0 P V : Int) (hm : 0 < m) (hn : n0 ≤ 9223372036854775807) (hV : 0 ≤ V) (k : Nat) (hP : P = 10000 ^ k) (h : V + P * m = n0) : k ≤ 4 := by
  rcases Nat.lt_or_ge 4 k with h5 | h5
  · have h1 := pow_mono 5 k (by omega)
    have h2 : (10000 : Int) ^ 5 = 100000000000000000000 := by decide
    rw [← hP, h2] at h1
    have h3 : P * 1 ≤ P * m := Int.mul_le_mul_of_nonneg_left (by omega) (by omega)
    omega
  · exact h5

def FromPost (w : World) (n0 : Int) (e : Ending) (w' : World) : Prop := (∃ v l, e = .returned v ∧ OwnL w' w.heap.size v l ∧ Dig l ∧ Can l ∧ val l = n0) ∧ Below w.heap.size w w'

set_option maxHeartbeats 2000000 in
theorem from_own (n0 : Int) (h0 : 0 ≤ n0) (h1 : n0 ≤ 9223372036854775807) (w : World) :
    Calls Try.prog 48 #[.int .i64 n0] w (FromPost w n0) := by
  obtain ⟨i0, hi, hz0, hz1, hz2⟩ := info_parts infoInt
  go_enter Try.func48, Try.ntmps48
  go_wp2
  go_loopw [0, 3] (fun vn vo wr => ∃ (m : Int) (l : List Int), vn = .int .i64 m ∧ 0 ≤ m ∧ m ≤ 9223372036854775807 ∧ Dig l ∧ val l + 10000 ^ l.length * m = n0 ∧ (m = 0 → Can l) ∧ OwnL wr w.heap.size vo l ∧ Below w.heap.size w wr) (fun vn _ _ => (intOf vn).toNat)
  case atStart => exact ⟨n0, [], rfl, h0, h1, fun _ h => by simp at h, by simp [val], fun _ => by simp [Can], World.ownsRow_nil _ _ _ _, Below.refl _ _⟩
  case round =>
    obtain ⟨m, l, rfl, m0, m1, hD, hv, hc, hown, hbl⟩ := hrel
    have HV := Lib.hid hv
    have HC := Lib.hid hc
    have HD := Lib.hid hD
    clear hv hc hD
    by_cases hm : 0 < m
    · have hlen := from_len m n0 _ _ hm h1 (val_bd l HD.out).1 l.length rfl HV.out
      have e1 : 0 ≤ m % 10000 ∧ m % 10000 < 10000 := by omega
      have hq : m / 10000 ≤ m := by omega
      have hq0 : 0 ≤ m / 10000 := by omega
      have hsz := hbl.size
      have H2 := Lib.hid hown
      clear hown
      go_wp2_with (at_builtin; refine wpList_append_own _ rfl _ _ 88 rfl w.heap.size 3 i0 (.int .i64 0) 1 8 Try.underlying88 hi hz0 hz1 hz2 rfl (by decide) _ _ _ rfl (World.ownsRow.alloc H2.out _) ⟨wr.heap.size, 0, none⟩ 1 1 [.int .i64 (m % 10000)] rfl rfl ?c1 ?c2 ?c3 ?c4 ?c5 ?_)
      case c1 => exact cell_one_new _ _ _
      case c2 => simp [Value.oneCell']
      case c3 => unfold maxLen; omega
      case c4 => omega
      case c5 => simp; omega
      intro v' w' hown' hgrow _
      have hb' := Below.grown (belowA hbl _) hgrow (belowA hbl _).size (fun k hk => (H2.out.lt k hk).1)
      have H3 := Lib.hid hown'
      clear hown' hgrow
      go_wp2
      go_roundw
      case rel =>
        refine ⟨m / 10000, l ++ [m % 10000], rfl, hq0, by omega, HD.out.app (Dig.one e1.1 e1.2), ?_, fun _ => by simp [Can]; omega, ?_, hb'⟩
        · rw [val_snoc, List.length_append, List.length_singleton, pow_s, ← HV.out, Int.mul_assoc, Int.add_assoc, ← Int.mul_add]
          have : m % 10000 + 10000 * (m / 10000) = m := by omega
          rw [this]
        · have := H3.out
          simp only [OwnL, List.length_append, List.length_singleton, List.map_append, List.map_cons, List.map_nil]
          exact this
      case measure => simp [intOf]; omega
    · have hm0 : m = 0 := by omega
      subst hm0
      have h4 : val l = n0 := by simpa using HV.out
      have H2 := Lib.hid hown
      have H5 := Lib.hid h4
      clear hown h4
      go_wp2
      go_ret
      exact ⟨⟨_, l, rfl, H2.out, HD.out, HC.out trivial, H5.out⟩, hbl⟩

theorem from_c (n : Int) (h0 : 0 ≤ n) (h1 : n ≤ 9223372036854775807) (w : World) :
    Calls Try.prog 48 #[.int .i64 n] w fun e w' => (∃ v, e = .returned v ∧ NumIs w' v n) ∧ Below w.heap.size w w' := by
  refine (from_own n h0 h1 w).mono ?_
  rintro e w' ⟨⟨v, l, rfl, o, d, c, rfl⟩, hb⟩
  exact ⟨⟨v, rfl, l, o.num, d, c, rfl, o.shp⟩, hb⟩
end Go.Proofs.Ytibphmddepfgjaa

/-
  The contract of the given package gavotteref01's Num.Mul over this seat's translation: the product. Conditions: those that each theorem states.
-/
namespace Go.Proofs.Ytibphmddepfgjaa
open Go.RowKit
attribute [local go_sem ↓] Go.wp_at_zero Go.wp_at_succ

theorem dig_set {l : List Int} (h : Dig l) (j : Nat) {d : Int} (h0 : 0 ≤ d) (h1 : d < 10000) : Dig (l.set j d) := fun x hx => by
  rcases List.mem_or_eq_of_mem_set hx with h2 | rfl
  · exact h x h2
  · exact ⟨h0, h1⟩
theorem val_set : ∀ (l : List Int) (j : Nat) (d : Int), j < l.length → val (l.set j d) = val l + 10000 ^ j * (d - l.getD j 0)
  | [], _, _, h => by simp at h
  | x :: t, 0, d, _ => by simp [val]; omega
  | x :: t, j + 1, d, h => by
    have ih := val_set t j d (by simpa using h)
    simp only [List.set_cons_succ, val, ih, List.getD_cons_succ, pow_s]
    rw [Int.mul_add, Int.mul_comm (10000 ^ j) 10000, Int.mul_assoc]
    omega
theorem val_take {l : List Int} {k : Nat} (h : k < l.length) : val (l.take (k + 1)) = val (l.take k) + 10000 ^ k * l.getD k 0 := by
  rw [take_last l k h, val_snoc, List.length_take, Nat.min_eq_left (by omega)]

/-- Behind i rounds of the outer loop. -/
structure MulO (la lb : List Int) (i : Nat) (os : List Int) : Prop where
  len : os.length = la.length + lb.length + 1
  dig : Dig os
  sum : val os = val (la.take i) * val lb
/-- Behind k rounds of the inner one. -/
structure MulI (la lb : List Int) (i k : Nat) (os : List Int) (c : Int) : Prop where
  len : os.length = la.length + lb.length + 1
  dig : Dig os
  c0 : 0 ≤ c
  c1 : c ≤ 9999
  hk : k ≤ lb.length + 1
  sum : val os + 10000 ^ (i + k) * c = val (la.take i) * val lb + 10000 ^ i * (la.getD i 0 * val (lb.take k))

theorem MulO.inner {la lb os : List Int} {i : Nat} (h : MulO la lb i os) : MulI la lb i 0 os 0 :=
  ⟨h.len, h.dig, by omega, by omega, by omega, by rw [h.sum]; simp [val]⟩
theorem MulI.place {la lb os : List Int} {i k : Nat} {c : Int} (h : MulI la lb i k os c) (hb : Dig lb) (hla : Dig la) (hi : i < la.length) (hg : k < lb.length ∨ 0 < c) : k ≤ lb.length := by
  rcases hg with hg | hg
  · omega
  · rcases Nat.lt_or_ge lb.length k with h1 | h1
    · have e : lb.take k = lb := List.take_of_length_le (by omega)
      have hs := h.sum
      rw [e] at hs
      have b1 := val_bd lb hb
      have b2 := val_bd (la.take (i + 1)) (fun x hx => hla x (List.mem_of_mem_take hx))
      have e2 := val_take hi
      rw [List.length_take, Nat.min_eq_left (by omega)] at b2
      have e3 : val (la.take i) * val lb + 10000 ^ i * (la.getD i 0 * val lb) = val (la.take (i + 1)) * val lb := by rw [e2, Int.add_mul, Int.mul_assoc]
      rw [e3] at hs
      have b3 := (val_bd os h.dig).1
      have e4 : (10000 : Int) ^ (i + k) * 1 ≤ 10000 ^ (i + k) * c := Int.mul_le_mul_of_nonneg_left (by omega) (Int.le_of_lt (pow_pos' _))
      have e5 : val (la.take (i + 1)) * val lb ≤ 10000 ^ (i + 1) * val lb := Int.mul_le_mul_of_nonneg_right (by omega) b1.1
      have e6 : (10000 : Int) ^ (i + 1) * val lb < 10000 ^ (i + 1) * 10000 ^ lb.length := Int.mul_lt_mul_of_pos_left b1.2 (pow_pos' _)
      rw [← Int.pow_add] at e6
      have e7 := pow_mono (i + 1 + lb.length) (i + k) (by omega)
      omega
    · exact h1
theorem MulI.step {la lb os : List Int} {i k : Nat} {c y d : Int} (h : MulI la lb i k os c) (hla : Dig la) (hk : k ≤ lb.length) (hi : i < la.length) (hy : y = if k < lb.length then lb.getD k 0 else 0) (hb : Dig lb) (hd : d = os.getD (i + k) 0 + c + la.getD i 0 * y) :
    MulI la lb i (k + 1) (os.set (i + k) (d % 10000)) (d / 10000) := by
  have h1 := hla.at i
  have h2 := h.dig.at (i + k)
  have h3 : 0 ≤ y ∧ y < 10000 := by
    subst hy
    split
    · exact hb.at k
    · omega
  have h4 : 0 ≤ la.getD i 0 * y := Int.mul_nonneg h1.1 h3.1
  have h5 : la.getD i 0 * y ≤ 9999 * 9999 := Int.mul_le_mul (by omega) (by omega) h3.1 (by omega)
  have hc0 := h.c0
  have hc1 := h.c1
  have hl := h.len
  refine ⟨by simpa using h.len, dig_set h.dig _ (by omega) (by omega), by omega, by omega, by omega, ?_⟩
  have e1 : val (lb.take (k + 1)) = val (lb.take k) + 10000 ^ k * y := by
    subst hy
    split
    · rename_i hkl; exact val_take hkl
    · rw [List.take_of_length_le (by omega), List.take_of_length_le (by omega)]; omega
  have hs := h.sum
  rw [val_set _ _ _ (by omega), e1, show i + (k + 1) = (i + k) + 1 from by omega, pow_s, Int.mul_add (la.getD i 0), Int.mul_add (10000 ^ i), ← Int.add_assoc, ← hs]
  have e2 : (10000 : Int) ^ i * (la.getD i 0 * (10000 ^ k * y)) = 10000 ^ (i + k) * (la.getD i 0 * y) := by
    rw [Int.pow_add, Int.mul_assoc, ← Int.mul_assoc (la.getD i 0), Int.mul_comm (la.getD i 0) (10000 ^ k), Int.mul_assoc]
  rw [e2]
  have e3 : d % 10000 = d - 10000 * (d / 10000) := by omega
  rw [e3, hd]
  generalize (10000 : Int) ^ (i + k) = P
  rw [← hd]
  generalize d / 10000 = q
  rw [hd]
  generalize os.getD (i + k) 0 = o
  generalize la.getD i 0 * y = z
  rw [show o + c + z - 10000 * q - o = c + z - 10000 * q from by omega, Int.mul_sub, Int.mul_add, ← Int.mul_assoc P 10000 q]
  omega
theorem MulI.done {la lb os : List Int} {i k : Nat} (h : MulI la lb i k os 0) (hk : ¬ k < lb.length) (hi : i < la.length) : MulO la lb (i + 1) os :=
  ⟨h.len, h.dig, by
    have hs := h.sum
    rw [List.take_of_length_le (by omega : lb.length ≤ k)] at hs
    rw [val_take hi, Int.add_mul, Int.mul_assoc]
    omega⟩
theorem val_rep (n : Nat) : val (List.replicate n 0) = 0 := by
  induction n with
  | zero => rfl
  | succ n ih => rw [List.replicate_succ]; simp [val, ih]
theorem MulO.start (la lb : List Int) : MulO la lb 0 (List.replicate (la.length + lb.length + 1) 0) :=
  ⟨by simp, fun x hx => by rw [List.eq_of_mem_replicate hx]; omega, by rw [val_rep]; simp [val]⟩

theorem trim_own (v : Value) (l : List Int) (hl : l.length ≤ 1000) (B : Nat) (w : World) (h : OwnL w B v l) (hd : Dig l) :
    Calls Try.prog 62 #[v] w fun e w' => (∃ v', e = .returned v' ∧ NumIs w' v' (val l) ∧ New B v') ∧ w = w' := by
  obtain ⟨t1, t2, t3, k, t4⟩ := trim_all l
  obtain ⟨x, cap', hv, hx⟩ := h.num
  have hcap : l.length ≤ cap' := by
    rcases h with ⟨_, ⟨rfl, hn⟩ | ⟨g, cap, cur, rfl, _, hh, hle, _, hsz, ht⟩⟩
    · omega
    · simp at hv; omega
  have hnw : New B (.slice x (trimL l).length cap') := fun a n c e => by
    simp at e
    obtain ⟨rfl, _⟩ := e
    exact h.new a _ _ hv
  have hs : Shp (.slice x (trimL l).length cap') := by
    rcases h with ⟨_, ⟨rfl, hn⟩ | ⟨g, cap, cur, rfl, _⟩⟩
    · have e := List.eq_nil_of_length_eq_zero hn
      subst e
      simp at hv
      obtain ⟨rfl, rfl⟩ := hv
      exact Shp.nil
    · simp at hv
      obtain ⟨rfl, _⟩ := hv
      exact Shp.some _ _ _
  refine (trim_c v l hl x cap' hcap hv w hx).mono ?_
  rintro e w' ⟨rfl, rfl⟩
  refine ⟨⟨_, rfl, ⟨trimL l, ⟨x, cap', rfl, ?_⟩, t1 hd, t2, t3, hs⟩, hnw⟩, rfl⟩
  rcases hx with rfl | ⟨b, off, rfl, hc⟩
  · exact .inl rfl
  · refine .inr ⟨b, off, rfl, fun i hi => ?_⟩
    rw [t4] at hi ⊢
    rw [List.length_take] at hi
    rw [hc i (by omega)]
    simp [List.getD, show i < k from by omega]
end Go.Proofs.Ytibphmddepfgjaa

/-
  The contract of the given package gavotteref01's Num.Mul over this seat's translation, the walk: the product. Conditions: those that each theorem states.
-/
namespace Go.Proofs.Ytibphmddepfgjaa
open Go.RowKit
attribute [local go_sem ↓] Go.wp_at_zero Go.wp_at_succ

def MulPost (w : World) (N : Int) (e : Ending) (w' : World) : Prop := (∃ v, e = .returned v ∧ NumIs w' v N ∧ New w.heap.size v) ∧ Below w.heap.size w w'
/-- The row that the call made, at block g. -/
def RowL (w : World) (B g n : Nat) (l : List Int) : Prop := w.ownsRow B 3 1 (.slice (some ⟨g, 0, none⟩) n n) n (l.map (Value.int .i64)) ∧ B ≤ g
theorem RowL.set {w : World} {B g n : Nat} {l : List Int} (h : RowL w B g n l) (j : Nat) (d : Int) : RowL (w.setCell ⟨g, j, none⟩ (.int .i64 d)) B g n (l.set j d) := by
  have := (h.1.stored j (.int .i64 d)).1
  rw [← List.map_set] at this
  exact ⟨this, h.2⟩
theorem RowL.drewN {w : World} {B g n : Nat} {l : List Int} (h : RowL w B g n l) (k : Nat) : RowL (w.drewN k) B g n l := h
theorem RowL.cell {w : World} {B g n : Nat} {l : List Int} (h : RowL w B g n l) (hl : l.length = n) (j : Nat) (hj : j < n) : w.cell? ⟨g, j, none⟩ = some (.int .i64 (l.getD j 0)) := by
  have := h.1.cellAt j (by omega)
  rw [this]
  simp [List.getD, List.getElem?_eq_getElem (show j < l.length by omega)]
theorem RowL.own {w : World} {B g n : Nat} {l : List Int} (h : RowL w B g n l) (hl : l.length = n) : OwnL w B (.slice (some ⟨g, 0, none⟩) n n) l := by
  unfold OwnL
  rw [hl]
  exact h.1

def OutRel (la lb : List Int) (w : World) (g n : Nat) (vi : Value) (wr : World) : Prop :=
  ∃ (i : Nat) (os : List Int), vi = .int .i64 i ∧ i ≤ la.length ∧ MulO la lb i os ∧ RowL wr w.heap.size g n os ∧ Below w.heap.size w wr
def InRel (la lb : List Int) (i : Nat) (w : World) (g n : Nat) (vc vk : Value) (wr : World) : Prop :=
  ∃ (k : Nat) (os : List Int) (c : Int), vc = .int .i64 c ∧ vk = .int .i64 k ∧ MulI la lb i k os c ∧ RowL wr w.heap.size g n os ∧ Below w.heap.size w wr

set_option maxHeartbeats 4000000 in
theorem mul_w (x y : Option Addr) (cx cy : Nat) (la lb : List Int) (hla : la.length ≤ 100) (hlb : lb.length ≤ 100) (da : Dig la) (db : Dig lb) (w : World)
    (hx : la = [] ∨ ∃ b off, x = some ⟨b, off, none⟩ ∧ ∀ i, i < la.length → w.cell? ⟨b, off + i, none⟩ = some (.int .i64 (la.getD i 0)))
    (hy : lb = [] ∨ ∃ b off, y = some ⟨b, off, none⟩ ∧ ∀ i, i < lb.length → w.cell? ⟨b, off + i, none⟩ = some (.int .i64 (lb.getD i 0))) :
    Calls Try.prog 56 #[.slice x la.length cx, .slice y lb.length cy] w (MulPost w (val la * val lb)) := by
  obtain ⟨i0, hi, hz0, hz1, hz2⟩ := info_parts infoInt
  have HX := Lib.hid hx
  have HY := Lib.hid hy
  have DA := Lib.hid da
  have DB := Lib.hid db
  clear hx hy da db
  go_enter Try.func56, Try.ntmps56
  go_wp2_with (at_make; refine wpList_make_full _ rfl _ _ 88 rfl w.heap.size 3 i0 (.int .i64 0) 1 Try.underlying88 hi hz0 hz1 .i64 .i64 _ _ (la.length + lb.length + 1) rfl rfl ?b1 ?b2 ?b3 ?b4 ?b5 ?_)
  case b1 => omega
  case b2 => omega
  case b3 => rw [hz2]; omega
  case b4 => unfold maxLen; omega
  case b5 => exact Nat.le_refl _
  intro w0 hown hgrow
  have hb0 := Below.grown (Below.refl w.heap.size w) hgrow (Nat.le_refl _) (fun k hk => by simp at hk)
  have hr0 : RowL w0 w.heap.size w.heap.size (la.length + lb.length + 1) (List.replicate (la.length + lb.length + 1) 0) := by
    refine ⟨?_, Nat.le_refl _⟩
    rw [List.map_replicate, ← toList_madeCells_one]
    exact hown
  clear hown hgrow
  have O0 := Lib.hid (MulO.start la lb)
  have R0 := Lib.hid hr0
  clear hr0
  generalize hn : la.length + lb.length + 1 = n at *
  go_wp2
  go_loopw [6, 7, 8, 9] (fun vi _ _ _ wr => OutRel la lb w w.heap.size n vi wr) (fun vi _ _ _ _ => la.length - (intOf vi).toNat)
  case atStart => exact ⟨0, _, rfl, by omega, O0.out, R0.out, hb0⟩
  case round =>
    obtain ⟨wo, rfl⟩ : ∃ wo : World, wo = wr := ⟨_, rfl⟩
    obtain ⟨i, os, rfl, hi, hO, hR, hbl⟩ := hrel
    clear R0 O0
    have HO := Lib.hid hO
    have HR := Lib.hid hR
    clear hO hR
    by_cases h1 : i < la.length
    · have h2 : (i : Int) < (la.length : Int) := by omega
      go_wp2
      go_loopw [7, 8, 9] (fun vc vk _ wr => InRel la lb i w w.heap.size n vc vk wr) (fun _ vk _ _ => lb.length + 2 - (intOf vk).toNat)
      case atStart => exact ⟨0, os, 0, rfl, rfl, HO.out.inner, HR.out, hbl⟩
      case round =>
        obtain ⟨k, os, c, rfl, rfl, hI, hR, hbl⟩ := hrel
        clear HO HR
        have HI := Lib.hid hI
        have HR := Lib.hid hR
        have hc0 := hI.c0
        have hc1 := hI.c1
        have hkl := hI.hk
        clear hI hR
        by_cases hg : k < lb.length ∨ 0 < c
        · have hk := HI.out.place DB.out DA.out h1 hg
          have c1 := HR.out.cell (hn ▸ HI.out.len) (i + k) (by omega)
          have hd := HI.out.dig.at (i + k)
          have hm : i + k < n := by omega
          have f1 := HR.out.1.frozenAt (i + k)
          rcases HX.out with rfl | ⟨b, off, rfl, hcx⟩
          · simp at h1
          have c2 := keepc hbl (hcx i h1)
          have hxd := DA.out.at i
          by_cases hkb : k < lb.length
          · have h4 : (k : Int) < (lb.length : Int) := by omega
            rcases HY.out with rfl | ⟨b', off', rfl, hcy⟩
            · simp at hkb
            have c3 := keepc hbl (hcy k hkb)
            have hyd := DB.out.at k
            have HS := Lib.hid (HI.out.step (y := lb.getD k 0) DA.out hk h1 (by rw [if_pos hkb]) DB.out rfl)
            have hp0 : 0 ≤ la.getD i 0 * lb.getD k 0 := Int.mul_nonneg hxd.1 hyd.1
            have hp1 : la.getD i 0 * lb.getD k 0 ≤ 9999 * 9999 := Int.mul_le_mul (by omega) (by omega) hyd.1 (by omega)
            generalize la.getD i 0 = X at *
            generalize lb.getD k 0 = Y at *
            generalize os.getD (i + k) 0 = O at *
            clear HI
            go_wp2
            go_quiet (fail)
            go_wp2
            go_roundw
            case rel => exact ⟨k + 1, _, _, rfl, by simp, HS.out, (HR.out.drewN _).set _ _, (belowN hbl _).setCell (Nat.le_refl _) _⟩
            case measure => simp [intOf]; omega
          · have h4 : ¬ (k : Int) < (lb.length : Int) := by omega
            have h5 : 0 < c := by omega
            have HS := Lib.hid (HI.out.step (y := 0) DA.out hk h1 (by rw [if_neg hkb]) DB.out rfl)
            simp only [Int.mul_zero, Int.add_zero] at HS
            generalize os.getD (i + k) 0 = O at *
            clear HI
            go_wp2
            go_roundw
            case rel => exact ⟨k + 1, _, _, rfl, by simp, HS.out, HR.out.set _ _, hbl.setCell (Nat.le_refl _) _⟩
            case measure => simp [intOf]; omega
        · have h3 : ¬ (k : Int) < (lb.length : Int) := by omega
          have h4 : c = 0 := by omega
          subst h4
          go_wp2
          go_roundw
          case rel => exact ⟨i + 1, os, by simp, by omega, HI.out.done (by omega) h1, HR.out, hbl⟩
          case measure => simp [intOf]; omega
    · have h2 : ¬ (i : Int) < (la.length : Int) := by omega
      have h3 : i = la.length := by omega
      subst h3
      have hv := HO.out.sum
      rw [List.take_length] at hv
      have HV := Lib.hid hv
      clear hv
      have hos := HO.out.len
      go_wp2_with fail
      refine (trim_own _ os (by omega) w.heap.size wo (HR.out.own (by omega)) HO.out.dig).mono ?_
      rintro e w1 ⟨⟨v', rfl, hv', hnw⟩, rfl⟩
      go_wp2
      go_ret
      exact ⟨⟨v', rfl, HV.out ▸ hv', hnw⟩, hbl⟩

theorem nmul_c (va vb : Value) (X Y : Int) (w : World) (na : NumIs w va X) (nb : NumIs w vb Y) (hX : X < 10000 ^ 100) (hY : Y < 10000 ^ 100) :
    Calls Try.prog 56 #[va, vb] w (MulPost w (X * Y)) := by
  obtain ⟨la, ⟨x, cx, rfl, hx⟩, a2, a3, rfl, _⟩ := na
  obtain ⟨lb, ⟨y, cy, rfl, hy⟩, b2, b3, rfl, _⟩ := nb
  exact mul_w x y cx cy la lb (can_len la a2 a3 100 hX) (can_len lb b2 b3 100 hY) a2 b2 w hx hy
end Go.Proofs.Ytibphmddepfgjaa

/-
  Plain mathematics for the given package gavotteref01: how Num.Add and Num.Sub reckon. No condition but those that each theorem states.
-/
namespace Go.Proofs.Ytibphmddepfgjaa
open Go.RowKit

/-- The digit at a place, nought above the highest. -/
theorem val_take0 (l : List Int) (k : Nat) : val (l.take (k + 1)) = val (l.take k) + 10000 ^ k * l.getD k 0 := by
  rcases Nat.lt_or_ge k l.length with h | h
  · exact val_take h
  · rw [List.take_of_length_le (by omega), List.take_of_length_le (by omega)]
    have : l.getD k 0 = 0 := by simp [List.getD, List.getElem?_eq_none h]
    rw [this]; omega

structure AddI (la lb : List Int) (i : Nat) (os : List Int) (c : Int) : Prop where
  len : os.length = i
  dig : Dig os
  c0 : 0 ≤ c
  c1 : c ≤ 1
  sum : val os + 10000 ^ i * c = val (la.take i) + val (lb.take i)
  top : 0 < i → la.length ≤ i → lb.length ≤ i → 10000 ^ (i - 1) ≤ val la + val lb
theorem AddI.start (la lb : List Int) : AddI la lb 0 [] 0 := ⟨rfl, fun _ h => by simp at h, by omega, by omega, by simp [val], fun h => by omega⟩
theorem AddI.place {la lb os : List Int} {i : Nat} {c : Int} (h : AddI la lb i os c) (hla : Dig la) (hlb : Dig lb) (hg : i < la.length ∨ i < lb.length ∨ 0 < c) : i ≤ la.length + lb.length := by
  rcases Nat.lt_or_ge (la.length + lb.length) i with h1 | h1
  · have hs := h.sum
    rw [List.take_of_length_le (by omega), List.take_of_length_le (by omega)] at hs
    have b1 := val_bd la hla
    have b2 := val_bd lb hlb
    have b3 := (val_bd os h.dig).1
    have m1 := pow_mono la.length (i - 1) (by omega)
    have m2 := pow_mono lb.length (i - 1) (by omega)
    have e : (10000 : Int) ^ i = 10000 ^ (i - 1) * 10000 := by rw [← pow_s]; congr 1; omega
    have hc : 0 < c := by omega
    have hp := pow_pos' (i - 1)
    have hc1 : c = 1 := by have := h.c1; omega
    subst hc1
    rw [e] at hs
    omega
  · exact h1
theorem AddI.step {la lb os : List Int} {i : Nat} {c d : Int} (h : AddI la lb i os c) (hla : Dig la) (hlb : Dig lb) (ca : Can la) (cb : Can lb) (hg : i < la.length ∨ i < lb.length ∨ 0 < c) (hd : d = c + la.getD i 0 + lb.getD i 0) :
    AddI la lb (i + 1) (os ++ [d % 10000]) (d / 10000) := by
  have h1 := hla.at i
  have h2 := hlb.at i
  have hc0 := h.c0
  have hc1 := h.c1
  have hs := h.sum
  refine ⟨by simp [h.len], h.dig.app (Dig.one (by omega) (by omega)), by omega, by omega, ?_, fun _ k1 k2 => ?_⟩
  · rw [val_snoc, h.len, val_take0, val_take0, pow_s]
    have e3 : d % 10000 = d - 10000 * (d / 10000) := by omega
    have e4 : (10000 : Int) ^ i * d = 10000 ^ i * c + 10000 ^ i * la.getD i 0 + 10000 ^ i * lb.getD i 0 := by rw [hd, Int.mul_add, Int.mul_add]
    rw [e3, Int.mul_sub, ← Int.mul_assoc, e4]
    omega
  · rw [Nat.add_sub_cancel]
    have b1 := (val_bd la hla).1
    have b2 := (val_bd lb hlb).1
    rcases Nat.lt_or_ge i la.length with g1 | g1
    · have := can_ge la hla ca (by rintro rfl; simp at g1)
      rw [show la.length - 1 = i from by omega] at this
      omega
    · rcases Nat.lt_or_ge i lb.length with g2 | g2
      · have := can_ge lb hlb cb (by rintro rfl; simp at g2)
        rw [show lb.length - 1 = i from by omega] at this
        omega
      · have hc : c = 1 := by omega
        subst hc
        rw [List.take_of_length_le g1, List.take_of_length_le g2] at hs
        have := (val_bd os h.dig).1
        omega
theorem AddI.done {la lb os : List Int} {i : Nat} {c : Int} (h : AddI la lb i os c) (hg : ¬ (i < la.length ∨ i < lb.length ∨ 0 < c)) : Can os ∧ val os = val la + val lb := by
  have hc : c = 0 := by have := h.c0; omega
  subst hc
  have hs := h.sum
  rw [List.take_of_length_le (by omega : la.length ≤ i), List.take_of_length_le (by omega : lb.length ≤ i)] at hs
  refine ⟨?_, by omega⟩
  by_cases hn : os = []
  · subst hn; simp [Can]
  · obtain ⟨t, e, rfl⟩ := snoc_of os hn
    intro hz
    have he : e = 0 := by simpa using hz
    subst he
    have hl := h.len
    simp at hl
    have ht := h.top (by omega) (by omega) (by omega)
    rw [val_snoc] at hs
    have b := (val_bd t (fun x hx => h.dig x (List.mem_append_left _ hx))).2
    rw [show i - 1 = t.length from by omega] at ht
    omega

structure SubI (la lb : List Int) (i : Nat) (os : List Int) (c : Int) : Prop where
  len : os.length = i
  dig : Dig os
  c0 : 0 ≤ c
  c1 : c ≤ 1
  sum : val os - 10000 ^ i * c = val (la.take i) - val (lb.take i)
theorem SubI.start (la lb : List Int) : SubI la lb 0 [] 0 := ⟨rfl, fun _ h => by simp at h, by omega, by omega, by simp [val]⟩
theorem SubI.step {la lb os : List Int} {i : Nat} {c d e q : Int} (h : SubI la lb i os c) (hla : Dig la) (hlb : Dig lb) (hd : d = la.getD i 0 - c - lb.getD i 0) (he : e = if d < 0 then d + 10000 else d) (hq : q = if d < 0 then 1 else 0) :
    SubI la lb (i + 1) (os ++ [e]) q := by
  have h1 := hla.at i
  have h2 := hlb.at i
  have hc0 := h.c0
  have hc1 := h.c1
  have hs := h.sum
  have hed : e = d + 10000 * q := by rw [he, hq]; split <;> omega
  have hq1 : q = 0 ∨ q = 1 := by rw [hq]; split <;> simp
  have he1 : 0 ≤ e ∧ e < 10000 := by rw [he]; split <;> omega
  refine ⟨by simp [h.len], h.dig.app (Dig.one he1.1 he1.2), by omega, by omega, ?_⟩
  rw [val_snoc, h.len, val_take0, val_take0, pow_s]
  have e4 : (10000 : Int) ^ i * d = 10000 ^ i * la.getD i 0 - 10000 ^ i * c - 10000 ^ i * lb.getD i 0 := by rw [hd, Int.mul_sub, Int.mul_sub]
  rw [hed, Int.mul_add, e4, ← Int.mul_assoc]
  omega
theorem SubI.done {la lb os : List Int} {c : Int} (h : SubI la lb la.length os c) (hla : Dig la) (hlb : Dig lb) (cb : Can lb) (hle : val lb ≤ val la) : val os = val la - val lb := by
  have b1 := val_bd la hla
  have b2 := val_bd os h.dig
  have hs := h.sum
  rw [h.len] at b2
  have hl := can_len lb hlb cb la.length (by omega)
  rw [List.take_length, List.take_of_length_le hl] at hs
  have hc0 := h.c0
  rcases Int.lt_or_le 0 c with hc | hc
  · have hc1 : c = 1 := by have := h.c1; omega
    subst hc1
    omega
  · have : c = 0 := by omega
    subst this
    omega
end Go.Proofs.Ytibphmddepfgjaa

/-
  The contract of the given package gavotteref01's Num.Add over this seat's translation, the walk: the sum. Conditions: those that each theorem states.
-/
namespace Go.Proofs.Ytibphmddepfgjaa
open Go.RowKit
attribute [local go_sem ↓] Go.wp_at_zero Go.wp_at_succ

theorem OwnL.snoc {w : World} {B : Nat} {v : Value} {l : List Int} {x : Int} {n : Nat} (hn : l.length = n) (h : w.ownsRow B 3 1 v (n + 1) (l.map (Value.int .i64) ++ [.int .i64 x])) : OwnL w B v (l ++ [x]) := by
  subst hn
  simp only [OwnL, List.length_append, List.length_singleton, List.map_append, List.map_cons, List.map_nil]
  exact h
theorem OwnL.is {w : World} {B : Nat} {v : Value} {l : List Int} (h : OwnL w B v l) (hd : Dig l) (hc : Can l) : NumIs w v (val l) := ⟨l, h.num, hd, hc, rfl, h.shp⟩
theorem getD_out {l : List Int} {i : Nat} (h : ¬ i < l.length) : l.getD i 0 = 0 := by simp [List.getD, List.getElem?_eq_none (Nat.le_of_not_lt h)]

def AddRel (la lb : List Int) (w : World) (vo vc vi : Value) (wr : World) : Prop :=
  ∃ (i : Nat) (os : List Int) (c : Int), OwnL wr w.heap.size vo os ∧ vc = .int .i64 c ∧ vi = .int .i64 i ∧ AddI la lb i os c ∧ Below w.heap.size w wr

end Go.Proofs.Ytibphmddepfgjaa

/-
  The contract of the given package gavotteref01's Num.Sub over this seat's translation, the walk: the difference. Conditions: those that each theorem states.
-/
namespace Go.Proofs.Ytibphmddepfgjaa
open Go.RowKit
attribute [local go_sem ↓] Go.wp_at_zero Go.wp_at_succ

def SubRel (la lb : List Int) (w : World) (vo vc vi : Value) (wr : World) : Prop :=
  ∃ (i : Nat) (os : List Int) (c : Int), OwnL wr w.heap.size vo os ∧ vc = .int .i64 c ∧ vi = .int .i64 i ∧ SubI la lb i os c ∧ i ≤ la.length ∧ Below w.heap.size w wr

set_option maxHeartbeats 4000000 in
set_option maxRecDepth 100000 in
theorem sub_w (x y : Option Addr) (cx cy : Nat) (la lb : List Int) (hla : la.length ≤ 300) (hlb : lb.length ≤ 300) (da : Dig la) (db : Dig lb) (cb : Can lb) (hle : val lb ≤ val la) (w : World)
    (hx : la = [] ∨ ∃ b off, x = some ⟨b, off, none⟩ ∧ ∀ i, i < la.length → w.cell? ⟨b, off + i, none⟩ = some (.int .i64 (la.getD i 0)))
    (hy : lb = [] ∨ ∃ b off, y = some ⟨b, off, none⟩ ∧ ∀ i, i < lb.length → w.cell? ⟨b, off + i, none⟩ = some (.int .i64 (lb.getD i 0))) :
    Calls Try.prog 63 #[.slice x la.length cx, .slice y lb.length cy] w (MulPost w (val la - val lb)) := by
  obtain ⟨i0, hi, hz0, hz1, hz2⟩ := info_parts infoInt
  have HX := Lib.hid hx
  have HY := Lib.hid hy
  have DA := Lib.hid da
  have DB := Lib.hid db
  have CB := Lib.hid cb
  have HL := Lib.hid hle
  clear hx hy da db cb hle
  go_enter Try.func63, Try.ntmps63
  go_wp2
  go_loopw [5, 6, 7, 8] (fun vo vc vi _ wr => SubRel la lb w vo vc vi wr) (fun _ _ vi _ _ => la.length - (intOf vi).toNat)
  case atStart => exact ⟨0, [], 0, World.ownsRow_nil _ _ _ _, rfl, rfl, SubI.start la lb, Nat.zero_le _, Below.refl _ _⟩
  case round =>
    obtain ⟨i, os, c, hR, rfl, rfl, hI, hil, hbl⟩ := hrel
    have HI := Lib.hid hI
    have HR := Lib.hid hR
    have hc0 := hI.c0
    have hc1 := hI.c1
    have hol := hI.len
    have hsz := hbl.size
    clear hI hR
    by_cases ha : i < la.length
    · have hxd := DA.out.at i
      have hyd := DB.out.at i
      have HS := Lib.hid (HI.out.step DA.out DB.out rfl rfl rfl)
      clear HI
      have ha' : (i : Int) < (la.length : Int) := by omega
      rcases HX.out with rfl | ⟨b, off, rfl, hcx⟩
      · simp at ha
      have c2 := keepc hbl (hcx i ha)
      by_cases hb : i < lb.length
      · have hb' : (i : Int) < (lb.length : Int) := by omega
        rcases HY.out with rfl | ⟨b', off', rfl, hcy⟩
        · simp at hb
        have c3 := keepc hbl (hcy i hb)
        generalize la.getD i 0 = X at *
        generalize lb.getD i 0 = Y at *
        by_cases hn : X - c - Y < 0
        · rw [if_pos hn, if_pos hn] at HS
          go_wp2_with (at_builtin; refine wpList_append_own _ rfl _ _ 88 rfl w.heap.size 3 i0 (.int .i64 0) 1 8 Try.underlying88 hi hz0 hz1 hz2 rfl (by decide) _ _ _ rfl (World.ownsRow.alloc HR.out _) ⟨wr.heap.size, 0, none⟩ 1 1 [.int .i64 (X - c - Y + 10000)] rfl rfl ?c1v5 ?c2v5 ?c3v5 ?c4v5 ?c5v5 ?_)
          try (case c1v5 => exact cell_one_new _ _ _)
          case c2v5 => simp [Value.oneCell']
          case c3v5 => unfold maxLen; omega
          case c4v5 => omega
          case c5v5 => first | (simp; omega) | omega
          intro v' w' hown' hgrow _
          have hb' := Below.grown (belowA hbl _) hgrow (belowA hbl _).size (fun k hk => (HR.out.lt k hk).1)
          have H3 := Lib.hid (OwnL.snoc hol hown')
          clear hown' hgrow
          go_wp2
          go_roundw
          case rel => exact ⟨i + 1, os ++ [X - c - Y + 10000], 1, H3.out, rfl, by simp, HS.out, by omega, hb'⟩
          case measure => simp [intOf]; omega
        · rw [if_neg hn, if_neg hn] at HS
          go_wp2_with (at_builtin; refine wpList_append_own _ rfl _ _ 88 rfl w.heap.size 3 i0 (.int .i64 0) 1 8 Try.underlying88 hi hz0 hz1 hz2 rfl (by decide) _ _ _ rfl (World.ownsRow.alloc HR.out _) ⟨wr.heap.size, 0, none⟩ 1 1 [.int .i64 (X - c - Y)] rfl rfl ?c1v6 ?c2v6 ?c3v6 ?c4v6 ?c5v6 ?_)
          try (case c1v6 => exact cell_one_new _ _ _)
          case c2v6 => simp [Value.oneCell']
          case c3v6 => unfold maxLen; omega
          case c4v6 => omega
          case c5v6 => first | (simp; omega) | omega
          intro v' w' hown' hgrow _
          have hb' := Below.grown (belowA hbl _) hgrow (belowA hbl _).size (fun k hk => (HR.out.lt k hk).1)
          have H3 := Lib.hid (OwnL.snoc hol hown')
          clear hown' hgrow
          go_wp2
          go_roundw
          case rel => exact ⟨i + 1, os ++ [X - c - Y], 0, H3.out, rfl, by simp, HS.out, by omega, hb'⟩
          case measure => simp [intOf]; omega
      · have hb' : ¬ (i : Int) < (lb.length : Int) := by omega
        rw [getD_out hb] at HS
        simp only [Int.sub_zero] at HS
        generalize la.getD i 0 = X at *
        by_cases hn : X - c < 0
        · rw [if_pos hn, if_pos hn] at HS
          go_wp2_with (at_builtin; refine wpList_append_own _ rfl _ _ 88 rfl w.heap.size 3 i0 (.int .i64 0) 1 8 Try.underlying88 hi hz0 hz1 hz2 rfl (by decide) _ _ _ rfl (World.ownsRow.alloc HR.out _) ⟨wr.heap.size, 0, none⟩ 1 1 [.int .i64 (X - c + 10000)] rfl rfl ?c1v7 ?c2v7 ?c3v7 ?c4v7 ?c5v7 ?_)
          try (case c1v7 => exact cell_one_new _ _ _)
          case c2v7 => simp [Value.oneCell']
          case c3v7 => unfold maxLen; omega
          case c4v7 => omega
          case c5v7 => first | (simp; omega) | omega
          intro v' w' hown' hgrow _
          have hb' := Below.grown (belowA hbl _) hgrow (belowA hbl _).size (fun k hk => (HR.out.lt k hk).1)
          have H3 := Lib.hid (OwnL.snoc hol hown')
          clear hown' hgrow
          go_wp2
          go_roundw
          case rel => exact ⟨i + 1, os ++ [X - c + 10000], 1, H3.out, rfl, by simp, HS.out, by omega, hb'⟩
          case measure => simp [intOf]; omega
        · rw [if_neg hn, if_neg hn] at HS
          go_wp2_with (at_builtin; refine wpList_append_own _ rfl _ _ 88 rfl w.heap.size 3 i0 (.int .i64 0) 1 8 Try.underlying88 hi hz0 hz1 hz2 rfl (by decide) _ _ _ rfl (World.ownsRow.alloc HR.out _) ⟨wr.heap.size, 0, none⟩ 1 1 [.int .i64 (X - c)] rfl rfl ?c1v8 ?c2v8 ?c3v8 ?c4v8 ?c5v8 ?_)
          try (case c1v8 => exact cell_one_new _ _ _)
          case c2v8 => simp [Value.oneCell']
          case c3v8 => unfold maxLen; omega
          case c4v8 => omega
          case c5v8 => first | (simp; omega) | omega
          intro v' w' hown' hgrow _
          have hb' := Below.grown (belowA hbl _) hgrow (belowA hbl _).size (fun k hk => (HR.out.lt k hk).1)
          have H3 := Lib.hid (OwnL.snoc hol hown')
          clear hown' hgrow
          go_wp2
          go_roundw
          case rel => exact ⟨i + 1, os ++ [X - c], 0, H3.out, rfl, by simp, HS.out, by omega, hb'⟩
          case measure => simp [intOf]; omega
    · have h1 : ¬ (i : Int) < (la.length : Int) := by omega
      have h3 : i = la.length := by omega
      subst h3
      have HE := Lib.hid (HI.out.done DA.out DB.out CB.out HL.out)
      go_wp2_with fail
      refine (trim_own _ os (by omega) w.heap.size wr HR.out HI.out.dig).mono ?_
      rintro e w1 ⟨⟨v', rfl, hv', hnw⟩, rfl⟩
      go_wp2
      go_ret
      exact ⟨⟨v', rfl, HE.out ▸ hv', hnw⟩, hbl⟩

theorem nsub_c (va vb : Value) (X Y : Int) (w : World) (na : NumIs w va X) (nb : NumIs w vb Y) (hX : X < 10000 ^ 300) (hle : Y ≤ X) :
    Calls Try.prog 63 #[va, vb] w (MulPost w (X - Y)) := by
  obtain ⟨la, ⟨x, cx, rfl, hx⟩, a2, a3, rfl, _⟩ := na
  obtain ⟨lb, ⟨y, cy, rfl, hy⟩, b2, b3, rfl, _⟩ := nb
  exact sub_w x y cx cy la lb (can_len la a2 a3 300 hX) (can_len lb b2 b3 300 (Int.lt_of_le_of_lt hle hX)) a2 b2 b3 hle w hx hy
end Go.Proofs.Ytibphmddepfgjaa

/-
  Plain mathematics for the given package gavotteref01: how Num.Div reckons, and what a row of the call's own keeps. No condition but those that each theorem states.
-/
namespace Go.Proofs.Ytibphmddepfgjaa
open Go.RowKit

theorem RowL.keep {w w' : World} {B g n : Nat} {l : List Int} (h : RowL w B g n l) (hb : Below w.heap.size w w') : RowL w' B g n l := by
  obtain ⟨⟨h1, h2⟩, h3⟩ := h
  refine ⟨⟨h1, ?_⟩, h3⟩
  rcases h2 with ⟨e, hn⟩ | ⟨g', cap, cur, e, hg, hh, r⟩
  · exact .inl ⟨e, hn⟩
  · have hlt : g' < w.heap.size := (Array.getElem?_eq_some_iff.1 hh).1
    exact .inr ⟨g', cap, cur, e, hg, by rw [hb.block g' hlt]; exact hh, r⟩

structure DivI (la : List Int) (B : Int) (k : Nat) (qs : List Int) (R : Int) : Prop where
  len : qs.length = la.length
  dig : Dig qs
  hk : k ≤ la.length
  r0 : 0 ≤ R
  r1 : R < B
  low : ∀ j, j < k → qs.getD j 0 = 0
  sum : val la = val qs * B + (val (la.take k) + 10000 ^ k * R)
theorem DivI.start (la : List Int) (B : Int) (hB : 0 < B) : DivI la B la.length (List.replicate la.length 0) 0 :=
  ⟨by simp, fun x hx => by rw [List.eq_of_mem_replicate hx]; omega, Nat.le_refl _, Int.le_refl _, hB, fun j hj => by simp [List.getD, hj], by rw [val_rep, List.take_length]; omega⟩
theorem DivI.step {la qs : List Int} {B R u : Int} {j : Nat} (h : DivI la B (j + 1) qs R) (h0 : 0 ≤ u) (h1 : u ≤ 9999) (h2 : u * B ≤ la.getD j 0 + 10000 * R) (h3 : la.getD j 0 + 10000 * R < (u + 1) * B) :
    DivI la B j (qs.set j u) (la.getD j 0 + 10000 * R - u * B) := by
  have hk := h.hk
  have hl := h.len
  have hz := h.low j (by omega)
  have hs := h.sum
  refine ⟨by simpa using h.len, dig_set h.dig j h0 (by omega), by omega, by omega, by rw [Int.add_mul] at h3; omega, fun i hi => ?_, ?_⟩
  · have := h.low i (by omega)
    rw [List.getD, List.getElem?_set_ne (by omega)]
    exact this
  · rw [val_set _ _ _ (by omega), hz, hs, val_take (by omega), pow_s, Int.sub_zero, Int.add_mul, Int.mul_sub, Int.mul_add, Int.mul_assoc (10000 ^ j) u B, Int.mul_assoc (10000 ^ j) 10000 R]
    omega
theorem DivI.done {la qs : List Int} {B R : Int} (h : DivI la B 0 qs R) : val qs = val la / B ∧ R = val la % B := by
  have hs := h.sum
  simp only [List.take_zero, val, Int.pow_zero, Int.one_mul, Int.zero_add] at hs
  have h0 := h.r0
  have h1 := h.r1
  have e := Int.ediv_emod_unique (a := val la) (b := B) (r := R) (q := val qs) (by omega)
  have := e.2 ⟨by rw [hs, Int.mul_comm B, Int.add_comm], h0, h1⟩
  exact ⟨this.1.symm, this.2.symm⟩
end Go.Proofs.Ytibphmddepfgjaa

/-
  The contract of the given package gavotteref01's Num.Div over this seat's translation: quotient and rest. Conditions: those that each theorem states.
-/
namespace Go.Proofs.Ytibphmddepfgjaa
open Go.RowKit
attribute [local go_sem ↓] Go.wp_at_zero Go.wp_at_succ

def DivPost (w : World) (Q R : Int) (e : Ending) (w' : World) : Prop := (∃ v u, e = .returned (.tuple #[v, u]) ∧ NumIs w' v Q ∧ NumIs w' u R) ∧ Below w.heap.size w w'
def DivRel (la : List Int) (B : Int) (w : World) (vr vi : Value) (wr : World) : Prop :=
  ∃ (k : Nat) (qs : List Int) (R : Int), vi = .int .i64 ((k : Int) - 1) ∧ DivI la B k qs R ∧ (NumIs wr vr R ∧ New (w.heap.size + 1) vr) ∧ RowL wr w.heap.size w.heap.size la.length qs ∧ Below w.heap.size w wr
def DivCut (wr : World) (R : Int) (s : Value) (wx : World) : Prop := (NumIs wx s R ∧ New wr.heap.size s) ∧ Below wr.heap.size wr wx
def DivIn (wo : World) (B R : Int) (vl vh : Value) (wr : World) : Prop :=
  ∃ (l h : Int), vl = .int .i64 l ∧ vh = .int .i64 h ∧ 0 ≤ l ∧ l ≤ h ∧ h ≤ 9999 ∧ l * B ≤ R ∧ R < (h + 1) * B ∧ Below wo.heap.size wo wr

theorem lt_s {x : Int} (h : x < 10000) : x < 10000 ^ 100 := by
  have := pow_mono 1 100 (by omega)
  rw [Int.pow_succ, Int.pow_zero] at this
  omega
theorem lt_b {x : Int} (h : x < 10000 ^ 20) : x < 10000 ^ 100 := by
  have := pow_mono 20 100 (by omega)
  exact Int.lt_of_lt_of_le h this
theorem lt_c {x B : Int} (h : B < 10000 ^ 20) (hx : x ≤ 9999 * B) : x < 10000 ^ 100 := by
  have h1 := pow_mono 21 100 (by omega)
  have h2 := pow_s 20
  have h3 := pow_pos' 20
  generalize (10000 : Int) ^ 100 = M at *
  generalize (10000 : Int) ^ 20 = P at *
  generalize (10000 : Int) ^ (20 + 1) = Q at *
  omega
theorem lt_d {x B : Int} (h : B < 10000 ^ 20) (hx : x < 10000 * B) : x < 10000 ^ 300 := by
  have h1 := pow_mono 21 300 (by omega)
  have h2 := pow_s 20
  have h3 := pow_pos' 20
  generalize (10000 : Int) ^ 300 = M at *
  generalize (10000 : Int) ^ 20 = P at *
  generalize (10000 : Int) ^ (20 + 1) = Q at *
  omega

set_option maxHeartbeats 4000000 in
set_option maxRecDepth 100000 in
theorem div_w (x : Option Addr) (cx : Nat) (la : List Int) (hla : la.length ≤ 20) (da : Dig la) (vb : Value) (B : Int) (hB : 0 < B) (hB2 : B < 10000 ^ 20) (w : World)
    (hx : la = [] ∨ ∃ b off, x = some ⟨b, off, none⟩ ∧ ∀ i, i < la.length → w.cell? ⟨b, off + i, none⟩ = some (.int .i64 (la.getD i 0))) (hb : NumIs w vb B) :
    Calls Try.prog 57 #[.slice x la.length cx, vb] w (DivPost w (val la / B) (val la % B)) := by
  obtain ⟨i0, hi, hz0, hz1, hz2⟩ := info_parts infoInt
  have HX := Lib.hid hx
  have HB := Lib.hid hb
  have DA := Lib.hid da
  have HB2 := Lib.hid hB2
  clear hx hb da hB2
  go_enter Try.func57, Try.ntmps57
  go_wp2_with (at_make; refine wpList_make_full _ rfl _ _ 88 rfl w.heap.size 3 i0 (.int .i64 0) 1 Try.underlying88 hi hz0 hz1 .i64 .i64 _ _ la.length rfl rfl ?b1 ?b2 ?b3 ?b4 ?b5 ?_)
  try (case b1 => rfl)
  try (case b2 => rfl)
  case b3 => rw [hz2]; omega
  case b4 => unfold maxLen; omega
  case b5 => exact Nat.le_refl _
  intro w0 hown hgrow
  have hb0 := Below.grown (Below.refl w.heap.size w) hgrow (Nat.le_refl _) (fun k hk => by simp at hk)
  have R0 := Lib.hid (show RowL w0 w.heap.size w.heap.size la.length (List.replicate la.length 0) from by
    refine ⟨?_, Nat.le_refl _⟩
    rw [List.map_replicate, ← toList_madeCells_one]
    simpa using hown)
  clear hown hgrow
  go_wp2
  go_loopw [7, 8, 9, 10, 11] (fun vr vi _ _ _ wr => DivRel la B w vr vi wr) (fun _ vi _ _ _ _ => (intOf vi + 1).toNat)
  case atStart => exact ⟨la.length, _, 0, rfl, DivI.start la B hB, ⟨⟨[], ⟨none, 0, rfl, .inl rfl⟩, fun _ h => by simp at h, by simp [Can], rfl, Shp.nil⟩, New.nil _ _ _⟩, R0.out, hb0⟩
  case round =>
    clear R0
    obtain ⟨k, qs, R, rfl, hI, hN, hR, hbl⟩ := hrel
    have HI := Lib.hid hI
    have HR := Lib.hid hR
    have HN := Lib.hid hN
    obtain ⟨wA, rfl⟩ : ∃ wA : World, wA = wr := ⟨_, rfl⟩
    have hkl := hI.hk
    have hr0 := hI.r0
    have hr1 := hI.r1
    clear hI hR hN
    cases k with
    | zero =>
      rw [show ((0 : Nat) : Int) - 1 = -1 from rfl]
      have HD := Lib.hid HI.out.done
      have hql := HI.out.len
      go_wp2_with fail
      refine (trim_own _ qs (by omega) w.heap.size wA (HR.out.own hql) HI.out.dig).mono ?_
      rintro e w1 ⟨⟨v', rfl, hv', _⟩, rfl⟩
      go_wp2
      exact bodyPost_ret (v := .tuple #[v', u7]) (by simp [results, Try.results57, go_sem]) rfl ⟨⟨v', u7, rfl, HD.out.1 ▸ hv', HD.out.2 ▸ HN.out.1⟩, hbl⟩
    | succ j =>
      rw [show ((j + 1 : Nat) : Int) - 1 = (j : Int) from by omega]
      have hj : (j : Int) < (la.length : Int) := by omega
      have hj0 : (0 : Int) ≤ (j : Int) := by omega
      rcases HX.out with rfl | ⟨b, off, rfl, hcx⟩
      · simp at hkl
      have c2 := keepc hbl (hcx j (by omega))
      have hxd := DA.out.at j
      have HS := Lib.hid (fun u => HI.out.step (u := u))
      have hql := HI.out.len
      clear HI
      generalize la.getD j 0 = X at *
      go_upto_region 6 with fail
      go_cut [7] (fun s wx => DivCut wA (X + 10000 * R) s wx)
      case first =>
        obtain ⟨rl, ⟨xr, cr, rfl, hxr⟩, d2, d3, rfl, hsh⟩ := HN.out.1
        have hrl : rl.length ≤ 20 := can_len rl d2 d3 20 (by have := HB2.out; omega)
        have D2 := Lib.hid d2
        have HXR := Lib.hid hxr
        clear d2 d3 hxr
        rcases xr with _ | a
        · obtain ⟨e1, rfl⟩ := hsh _ _ rfl
          have e2 := List.eq_nil_of_length_eq_zero e1
          subst e2
          have HO := Lib.hid (show OwnL (wA.alloc (.cells #[.int .i64 X] 3)) wA.heap.size (.slice (some ⟨wA.heap.size, 0, none⟩) 1 1) [X] from World.ownsRow_lit wA #[.int .i64 X] 1 (Nat.le_refl _) (by unfold maxLen; omega) rfl)
          go_wp2_with (at_builtin; refine wpList_append_own_none rfl _ _ 88 rfl wA.heap.size 3 i0 1 Try.underlying88 hi _ _ _ rfl HO.out rfl ?_)
          refine (trim_own _ [X] (by simp) wA.heap.size _ HO.out (Dig.one hxd.1 hxd.2)).mono ?_
          rintro e w2 ⟨⟨v2, rfl, hv2, hn2⟩, rfl⟩
          go_wp2_with fail
          go_meet
          exact ⟨⟨hv2, hn2⟩, belowA (Below.refl _ _) _⟩
        · have hcell : ∀ j u, (rl.map (Value.int .i64))[j]? = some u → (wA.alloc (.cells #[.int .i64 X] 3)).cell? (a.add j) = some u := by
            intro j u hju
            rw [List.getElem?_map, Option.map_eq_some_iff] at hju
            obtain ⟨d, hd, rfl⟩ := hju
            have hjl : j < rl.length := (List.getElem?_eq_some_iff.1 hd).1
            rcases HXR.out with rfl | ⟨b', off', e1, hcr⟩
            · simp at hjl
            · obtain rfl : a = ⟨b', off', none⟩ := by simpa using e1
              have := keepc (belowA (Below.refl wA.heap.size wA) (.cells #[.int .i64 X] 3)) (hcr j hjl)
              simp only [Addr.add, List.getD, hd, Option.getD_some] at this ⊢
              split
              · rename_i h0; subst h0; exact this
              · exact this
          have HC := Lib.hid hcell
          clear hcell
          go_wp2_with (at_builtin; refine wpList_append_own _ rfl _ _ 88 rfl wA.heap.size 3 i0 (.int .i64 0) 1 8 Try.underlying88 hi hz0 hz1 hz2 rfl (by decide) _ _ _ rfl (World.ownsRow_lit wA #[.int .i64 X] 1 (Nat.le_refl _) (by unfold maxLen; omega) rfl) a rl.length cr (rl.map (Value.int .i64)) rfl ?c0 HC.out ?c2 ?c3 ?c4 ?c5 ?_)
          case c0 => simp
          case c2 => simp [Value.oneCell']
          case c3 => unfold maxLen; omega
          case c4 => omega
          case c5 => simp
          intro v1 w1 hown1 hgrow1 _
          have hb1 := Below.grown (belowA (Below.refl wA.heap.size wA) _) hgrow1 (belowA (Below.refl wA.heap.size wA) _).size (fun k hk => by simp [Value.ownBlock] at hk; omega)
          have h3 : OwnL w1 wA.heap.size v1 (X :: rl) := by
            simp only [OwnL, List.length_cons, List.map_cons]
            rw [Nat.add_comm rl.length 1]
            exact hown1
          have HO := Lib.hid h3
          clear hown1 hgrow1 h3
          go_wp2_with fail
          refine (trim_own v1 (X :: rl) (by simp; omega) wA.heap.size w1 HO.out ((Dig.one hxd.1 hxd.2).app D2.out)).mono ?_
          rintro e w2 ⟨⟨v2, rfl, hv2, hn2⟩, rfl⟩
          go_wp2_with fail
          go_meet
          exact ⟨⟨hv2, hn2⟩, hb1⟩
      case rest =>
        obtain ⟨hN2, hbc⟩ := hcut
        have hg1 : w.heap.size < wA.heap.size := by
          have := World.block_lt_of_cell? wA _ (HR.out.cell hql j (by omega))
          exact this
        have HN2 := Lib.hid (And.intro hN2.1 (hN2.2.mono hg1))
        have HR2 := Lib.hid (HR.out.keep hbc)
        have hb2 := belowT hbl hbc
        have HB3 := Lib.hid (HB.out.keep hb2)
        have hlo : 0 * B ≤ X + 10000 * R := by omega
        have hhi : X + 10000 * R < (9999 + 1) * B := by omega
        clear hN2 HN HR hbc hbl c2
        obtain ⟨wo, rfl⟩ : ∃ wo : World, wo = wc := ⟨_, rfl⟩
        have HLO := Lib.hid hlo
        have HHI := Lib.hid hhi
        clear hlo hhi
        go_wp2
        go_loopw [9, 10, 11] (fun vl vh _ wr => DivIn wo B (X + 10000 * R) vl vh wr) (fun vl vh _ _ => (intOf vh - intOf vl).toNat)
        case atStart => exact ⟨0, 9999, rfl, rfl, by omega, by omega, by omega, HLO.out, HHI.out, Below.refl _ _⟩
        case round =>
          clear HLO HHI
          obtain ⟨l, h, rfl, rfl, hl0, hlh, hh1, hlo, hhi, hbi⟩ := hrel
          have HLO := Lib.hid hlo
          have HHI := Lib.hid hhi
          clear hlo hhi
          by_cases hlt : l < h
          · have hm0 : l < (l + h + 1) / 2 ∧ (l + h + 1) / 2 ≤ h := by omega
            have hmb : (l + h + 1) / 2 * B ≤ 9999 * B := Int.mul_le_mul_of_nonneg_right (by omega) (by omega)
            have HMB := Lib.hid hmb
            clear hmb
            go_wp2_with fail
            refine (from_c ((l + h + 1) / 2) (by omega) (by omega) wr).mono ?_
            rintro e w1 ⟨⟨v1, rfl, n1⟩, hb1⟩
            have N1 := Lib.hid n1
            clear n1
            go_wp2_with fail
            refine (nmul_c v1 vb _ B w1 N1.out (HB3.out.keep (belowT hbi hb1)) (lt_s (by omega)) (lt_b HB2.out)).mono ?_
            rintro e w2 ⟨⟨v2, rfl, n2, _⟩, hb2'⟩
            have N2 := Lib.hid n2
            clear n2 N1
            go_wp2_with fail
            refine (numcmp_c v2 _ _ _ w2 N2.out (HN2.out.1.keep (belowT (belowT hbi hb1) hb2')) (lt_c HB2.out (by have := HMB.out; omega))).mono ?_
            rintro e w3 ⟨rfl, hb3⟩
            have hb4 := belowT (belowT (belowT hbi hb1) hb2') hb3
            by_cases hle : (l + h + 1) / 2 * B ≤ X + 10000 * R
            · have hs : sgn ((l + h + 1) / 2 * B) (X + 10000 * R) ≤ 0 := by unfold sgn; (repeat' split) <;> omega
              have HLE := Lib.hid hle
              generalize sgn ((l + h + 1) / 2 * B) (X + 10000 * R) = sg at *
              clear hle hb1 hb2' hb3 N2 HMB
              go_wp2
              go_roundw
              case rel => exact ⟨_, h, rfl, rfl, by omega, by omega, by omega, HLE.out, HHI.out, hb4⟩
              case measure => simp [intOf]; omega
            · have hs : ¬ sgn ((l + h + 1) / 2 * B) (X + 10000 * R) ≤ 0 := by unfold sgn; (repeat' split) <;> omega
              have HLE := Lib.hid hle
              generalize sgn ((l + h + 1) / 2 * B) (X + 10000 * R) = sg at *
              clear hle hb1 hb2' hb3 N2 HMB
              go_wp2
              go_roundw
              case rel => exact ⟨l, _, rfl, rfl, by omega, by omega, by omega, HLO.out, by have := HLE.out; rw [Int.sub_add_cancel]; omega, hb4⟩
              case measure => simp [intOf]; omega
          · obtain rfl : l = h := by omega
            have hR3 := HR2.out.keep hbi
            have c1 := hR3.cell hql j (by omega)
            have f1 := hR3.1.frozenAt j
            have HR3 := Lib.hid hR3
            clear hR3
            go_wp2_with fail
            have hbS : Below w.heap.size w (wr.setCell ⟨w.heap.size, j, none⟩ (.int .i64 l)) := (belowT hb2 hbi).setCell (Nat.le_refl _) _
            have RS := Lib.hid (HR3.out.set j l)
            have NS := Lib.hid ((HN2.out.1.keep hbi).set HN2.out.2 j (.int .i64 l))
            clear c1 f1
            generalize (wr.setCell ⟨w.heap.size, j, none⟩ (.int .i64 l)) = wS at *
            refine (from_c l (by omega) (by omega) wS).mono ?_
            rintro e w1 ⟨⟨v1, rfl, n1⟩, hb1⟩
            have N1 := Lib.hid n1
            clear n1
            go_wp2_with fail
            refine (nmul_c v1 vb _ B w1 N1.out (HB.out.keep (belowT hbS hb1)) (lt_s (by omega)) (lt_b HB2.out)).mono ?_
            rintro e w2 ⟨⟨v2, rfl, n2, _⟩, hb2'⟩
            have N2 := Lib.hid n2
            clear n2 N1
            go_wp2_with fail
            refine (nsub_c _ v2 _ _ w2 (NS.out.keep (belowT hb1 hb2')) N2.out (lt_d HB2.out (by omega)) HLO.out).mono ?_
            rintro e w3 ⟨⟨v3, rfl, n3, nn3⟩, hb3⟩
            have N3 := Lib.hid (And.intro n3 nn3)
            have RS2 := Lib.hid (RS.out.keep (belowT hb1 hb2'))
            clear n3 nn3
            go_wp2
            go_roundw
            case rel =>
              refine ⟨j, qs.set j l, X + 10000 * R - l * B, by simp, HS.out l (by omega) (by omega) HLO.out HHI.out, ⟨N3.out.1, N3.out.2.mono ?_⟩, RS2.out.keep hb3, belowT (belowT (belowT hbS hb1) hb2') hb3⟩
              exact World.block_lt_of_cell? w2 _ (RS2.out.cell (by simpa using hql) j (by omega))
            case measure => simp [intOf]

theorem ndiv_c (va vb : Value) (A B : Int) (w : World) (na : NumIs w va A) (nb : NumIs w vb B) (hA : A < 10000 ^ 20) (hB : 0 < B) (hB2 : B < 10000 ^ 20) :
    Calls Try.prog 57 #[va, vb] w (DivPost w (A / B) (A % B)) := by
  obtain ⟨la, ⟨x, cx, rfl, hx⟩, a2, a3, rfl, _⟩ := na
  exact div_w x cx la (can_len la a2 a3 20 hA) a2 vb B hB hB2 w hx nb
end Go.Proofs.Ytibphmddepfgjaa

/-
  The contracts of the given package gavotteref01's Gcd, Num.Int, most and plain over this seat's translation. Conditions: those that each theorem states.
-/
namespace Go.Proofs.Ytibphmddepfgjaa
open Go.RowKit
attribute [local go_sem ↓] Go.wp_at_zero Go.wp_at_succ

theorem lt_m {x : Int} (h : x < 10000000000000000000000000000000000000000) : x < 10000 ^ 300 := by
  have h1 := pow_mono 10 300 (by omega)
  have h2 : (10000 : Int) ^ 10 = 10000000000000000000000000000000000000000 := by decide
  generalize (10000 : Int) ^ 300 = M at *
  omega

def GcdRel (A B : Int) (w : World) (k : Nat) (va vb : Value) (wr : World) : Prop :=
  ∃ (X Y : Int), NumIs wr va X ∧ NumIs wr vb Y ∧ X < 10000 ^ 20 ∧ Y < 10000 ^ 20 ∧ Int.gcd X Y = Int.gcd A B ∧ Y.toNat = k ∧ Below w.heap.size w wr
def NumPost (w : World) (N : Int) (e : Ending) (w' : World) : Prop := (∃ v, e = .returned v ∧ NumIs w' v N) ∧ Below w.heap.size w w'

set_option maxHeartbeats 2000000 in
theorem ngcd_c (va vb : Value) (A B : Int) (w : World) (na : NumIs w va A) (nb : NumIs w vb B) (hA : A < 10000 ^ 20) (hB : B < 10000 ^ 20) :
    Calls Try.prog 47 #[va, vb] w (NumPost w (Int.gcd A B)) := by
  have NA := Lib.hid na
  have NB := Lib.hid nb
  have HA := Lib.hid hA
  have HB := Lib.hid hB
  clear na nb hA hB
  go_enter Try.func47, Try.ntmps47
  go_wp2
  go_loopg [0, 1, 5, 6] B.toNat (fun k va vb _ _ wr => GcdRel A B w k va vb wr)
  case atStart => exact ⟨A, B, NA.out, NB.out, HA.out, HB.out, rfl, rfl, Below.refl _ _⟩
  case round =>
    clear NA NB HA HB
    obtain ⟨X, Y, n1, n2, h1, h2, hg, hk, hbl⟩ := hrel
    have hY0 := n2.nonneg
    have hX0 := n1.nonneg
    have N1 := Lib.hid n1
    have N2 := Lib.hid n2
    have H1 := Lib.hid h1
    have H2 := Lib.hid h2
    have HG := Lib.hid hg
    have HK := Lib.hid hk
    obtain ⟨l, ⟨x, c, rfl, hx⟩, d1, d2, rfl, _⟩ := n2
    have hnl := can_nil l d1 d2
    by_cases hl : l = []
    · have hl0 : l.length = 0 := by rw [hl]; rfl
      have hy : val l = 0 := hnl.2 hl
      rw [hy, Int.gcd_zero_right] at hg
      have e : X = (Int.gcd A B : Int) := by rw [← hg]; omega
      have E := Lib.hid e
      clear hg hk h1 h2 n1 hx d1 d2 hnl hl hy e hY0 H2 HG HK
      go_wp2
      go_ret
      exact ⟨⟨_, rfl, E.out ▸ N1.out⟩, hbl⟩
    · have hl0 : 0 < l.length := List.length_pos_iff.2 hl
      have hl1 : (0 : Int) < (l.length : Int) := by omega
      have hy : 0 < val l := by
        have : ¬ val l = 0 := fun e => hl (hnl.1 e)
        omega
      clear hg hk h1 h2 n1 hx d1 d2 hnl hl
      go_wp2_with fail
      refine (ndiv_c _ _ X (val l) wr N1.out N2.out H1.out hy H2.out).mono ?_
      rintro e w1 ⟨⟨v1, u1, rfl, hv1, hu1⟩, hb1⟩
      have HU := Lib.hid hu1
      have hr0 := Int.emod_nonneg X (b := val l) (by omega)
      have hr1 := Int.emod_lt_of_pos X hy
      clear hv1 hu1
      go_wp2
      go_roundg ((X % val l).toNat)
      case measure => rw [← HK.out]; omega
      case rel => exact ⟨val l, X % val l, N2.out.keep hb1, HU.out, H2.out, Int.lt_trans hr1 H2.out, by rw [gcd_step X (val l) hX0 hY0]; exact HG.out, rfl, belowT hbl hb1⟩

def IntRel (la : List Int) (vn vi : Value) : Prop := ∃ (k : Nat) (n : Int), vi = .int .i64 ((k : Int) - 1) ∧ vn = .int .i64 n ∧ k ≤ la.length ∧ 0 ≤ n ∧ val (la.take k) + 10000 ^ k * n = val la

theorem num_one (w : World) : NumIs (w.alloc (.cells #[.int .i64 1] 3)) (.slice (some ⟨w.heap.size, 0, none⟩) 1 1) 1 := by
  have h : OwnL (w.alloc (.cells #[.int .i64 1] 3)) w.heap.size (.slice (some ⟨w.heap.size, 0, none⟩) 1 1) [1] := World.ownsRow_lit w #[.int .i64 1] 1 (Nat.le_refl _) (by unfold maxLen; omega) rfl
  exact h.is (Dig.one (by omega) (by omega)) (by simp [Can])

end Go.Proofs.Ytibphmddepfgjaa
