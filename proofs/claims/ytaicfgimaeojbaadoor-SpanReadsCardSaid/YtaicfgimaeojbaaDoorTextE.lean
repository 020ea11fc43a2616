/-
  Plain mathematics of the texts of times: a text is cut in one way, and tells its time. No condition but those that each theorem states.
-/
import Derived.Test.YtaicfgimaeojbaaDoorTextD
import Derived.Lib.AtoiAllCases
import Derived.Lib.IndexMore
namespace Go.Proofs.YtaicfgimaeojbaaDoor.Tx
open Go.RowKit

def dval (l : List UInt8) : Nat := l.foldl (fun a c => a * 10 + (c.toNat - 48)) 0
theorem dval_snoc (l : List UInt8) (c : UInt8) : dval (l ++ [c]) = dval l * 10 + (c.toNat - 48) := by unfold dval; rw [List.foldl_append]; rfl
theorem digit_nat (d : Nat) (h : d < 10) : (UInt8.ofNat (48 + d)).toNat = 48 + d := by
  rw [UInt8.toNat_ofNat']
  exact Nat.mod_eq_of_lt (by omega)
theorem dec_val (n : Nat) : dval (Lib.decDigits n) = n := by
  induction n using Nat.strongRecOn with
  | _ n ih =>
    rw [Lib.decDigits]
    by_cases h : n < 10
    · rw [dif_pos h]
      show 0 * 10 + ((UInt8.ofNat (48 + n)).toNat - 48) = n
      rw [digit_nat n h]
      omega
    · rw [dif_neg h, dval_snoc, ih (n / 10) (by omega), digit_nat _ (by omega)]
      omega
theorem dec_inj {a b : Nat} (h : Lib.decDigits a = Lib.decDigits b) : a = b := by rw [← dec_val a, h, dec_val]
theorem dec_chars (n : Nat) : ∀ c ∈ Lib.decDigits n, 48 ≤ c.toNat ∧ c.toNat ≤ 57 := by
  induction n using Nat.strongRecOn with
  | _ n ih =>
    rw [Lib.decDigits]
    by_cases h : n < 10
    · rw [dif_pos h]
      intro c hc
      rw [List.mem_singleton] at hc
      subst hc
      rw [digit_nat n h]
      omega
    · rw [dif_neg h]
      intro c hc
      rw [List.mem_append, List.mem_singleton] at hc
      rcases hc with hc | hc
      · exact ih (n / 10) (by omega) c hc
      · subst hc
        rw [digit_nat _ (by omega)]
        omega
theorem dec_ne (n : Nat) : Lib.decDigits n ≠ [] := by
  rw [Lib.decDigits]
  by_cases h : n < 10
  · rw [dif_pos h]; simp
  · rw [dif_neg h]; simp
theorem dec_small {n : Nat} (h : n < 10) : Lib.decDigits n = [UInt8.ofNat (48 + n)] := by rw [Lib.decDigits, dif_pos h]
theorem dec_big {n : Nat} (h : ¬ n < 10) : Lib.decDigits n = Lib.decDigits (n / 10) ++ [UInt8.ofNat (48 + n % 10)] := by rw [Lib.decDigits, dif_neg h]
/-- The first digit is a nought just where the number is. -/
theorem dec_head (n : Nat) : ∃ c l, Lib.decDigits n = c :: l ∧ (c = 48 → n = 0) := by
  induction n using Nat.strongRecOn with
  | _ n ih =>
    by_cases h : n < 10
    · refine ⟨_, [], dec_small h, fun e => ?_⟩
      have := congrArg UInt8.toNat e
      rw [digit_nat n h] at this
      have e48 : (48 : UInt8).toNat = 48 := rfl
      omega
    · obtain ⟨c, l, e, hz⟩ := ih (n / 10) (by omega)
      refine ⟨c, l ++ [UInt8.ofNat (48 + n % 10)], by rw [dec_big h, e]; rfl, fun e2 => ?_⟩
      have := hz e2
      omega
theorem dec_zero (n : Nat) (l : List UInt8) (h : Lib.decDigits n = 48 :: l) : l = [] := by
  obtain ⟨c, m, e, hz⟩ := dec_head n
  rw [e] at h
  injection h with h1 h2
  have hn := hz h1
  subst hn
  rw [dec_small (by omega)] at e
  injection e with e1 e2
  rw [← h2, ← e2]

theorem dval_from (l : List UInt8) : ∀ a, a ≤ l.foldl (fun a c => a * 10 + (c.toNat - 48)) a := by
  induction l with
  | nil => intro a; exact Nat.le_refl _
  | cons c l ih => intro a; exact Nat.le_trans (by omega) (ih (a * 10 + (c.toNat - 48)))
theorem dval_le (p r : List UInt8) : dval p ≤ dval (p ++ r) := by
  unfold dval
  rw [List.foldl_append]
  exact dval_from r _
/-- A row of digits without a nought ahead is the number's own. -/
theorem dec_dval : ∀ (k : Nat) (l : List UInt8), l.length = k + 1 → (∀ c ∈ l, 48 ≤ c.toNat ∧ c.toNat ≤ 57) → (k = 0 ∨ l.head? ≠ some 48) → Lib.decDigits (dval l) = l
  | 0, l, hl, hc, _ => by
    obtain ⟨c, rfl⟩ : ∃ c, l = [c] := by
      match l, hl with
      | [c], _ => exact ⟨c, rfl⟩
    have h := hc c (by simp)
    have e : dval [c] = c.toNat - 48 := by show 0 * 10 + (c.toNat - 48) = _; omega
    rw [e, dec_small (by omega), show 48 + (c.toNat - 48) = c.toNat from by omega, UInt8.ofNat_toNat]
  | k + 1, l, hl, hc, hh => by
    have hne : l ≠ [] := by intro e; rw [e] at hl; simp at hl
    obtain ⟨p, c, rfl⟩ : ∃ p c, l = p ++ [c] := ⟨l.dropLast, l.getLast hne, (List.dropLast_concat_getLast hne).symm⟩
    have hp : p.length = k + 1 := by simp at hl; omega
    have hpne : p ≠ [] := by intro e; rw [e] at hp; simp at hp
    have hcp : ∀ c ∈ p, 48 ≤ c.toNat ∧ c.toNat ≤ 57 := fun x hx => hc x (by simp [hx])
    have h48 : p.head? ≠ some 48 := by
      rcases hh with hh | hh
      · omega
      · intro e
        refine hh ?_
        cases p with
        | nil => exact absurd rfl hpne
        | cons a q => exact e
    have ih := dec_dval k p hp hcp (.inr h48)
    have hcc := hc c (by simp)
    have hpos : 0 < dval p := by
      rcases Nat.eq_zero_or_pos (dval p) with e | e
      · rw [e, dec_small (by omega)] at ih
        rw [← ih] at h48
        exact absurd rfl h48
      · exact e
    rw [dval_snoc, dec_big (by omega), show (dval p * 10 + (c.toNat - 48)) / 10 = dval p from by omega, ih,
      show 48 + (dval p * 10 + (c.toNat - 48)) % 10 = c.toNat from by omega, UInt8.ofNat_toNat]

/-! ### Atoi of a number's own text -/
theorem parse_dval : ∀ (r p : List UInt8), (∀ c ∈ r, 48 ≤ c.toNat ∧ c.toNat ≤ 57) → dval (p ++ r) < 18446744073709551616 → Lib.parseUint10 (dval p) r = .ok (dval (p ++ r))
  | [], p, _, _ => by simp [Lib.parseUint10]
  | c :: r, p, hc, hb => by
    have h := hc c (by simp)
    have e : p ++ c :: r = (p ++ [c]) ++ r := by simp
    have hle : dval p * 10 + (c.toNat - 48) < 18446744073709551616 := by
      rw [← dval_snoc]
      have := dval_le (p ++ [c]) r
      rw [← e] at this
      omega
    rw [Lib.parseUint10, if_pos h, if_neg (by omega), if_neg (by omega), ← dval_snoc]
    rw [parse_dval r (p ++ [c]) (fun x hx => hc x (by simp [hx])) (by rw [← e]; exact hb), ← e]
theorem atoi_dec (n : Nat) (h : (n : Int) ≤ 9223372036854775807) : Lib.atoiAll (Lib.decDigits n) = .ok (n : Int) := by
  obtain ⟨c, l, e, _⟩ := dec_head n
  have hcs := dec_chars n
  have hc := hcs c (by rw [e]; simp)
  have h2 := parse_dval (Lib.decDigits n) [] hcs (by rw [List.nil_append, dec_val]; omega)
  rw [List.nil_append, dec_val] at h2
  rw [show dval [] = 0 from rfl] at h2
  have hm : Lib.parseMag (c :: l) = .ok n := by
    rw [← e]
    unfold Lib.parseMag
    rw [if_neg (dec_ne n), h2]
  rw [e, Lib.atoiAll_plain c l (by omega) (by omega), hm]
  simp only [Lib.signless]
  rw [if_neg (by omega)]

/-! ### The cut -/
/-- k is the place of the first 47 of l, or l's length. -/
def First (l : List UInt8) (k : Nat) : Prop := k ≤ l.length ∧ (∀ j, j < k → l[j]? ≠ some 47) ∧ (k < l.length → l[k]? = some 47)
theorem first_digits {a : List UInt8} (ha : ∀ c ∈ a, 48 ≤ c.toNat ∧ c.toNat ≤ 57) {k : Nat} (h : First a k) : k = a.length := by
  obtain ⟨h1, _, h3⟩ := h
  rcases Nat.lt_or_ge k a.length with hk | hk
  · have := List.mem_of_getElem? (h3 hk)
    have := ha _ this
    have e : (47 : UInt8).toNat = 47 := rfl
    omega
  · omega
theorem first_cut {a b : List UInt8} (ha : ∀ c ∈ a, 48 ≤ c.toNat ∧ c.toNat ≤ 57) {k : Nat} (h : First (a ++ 47 :: b) k) : k = a.length := by
  obtain ⟨h1, h2, h3⟩ := h
  rcases Nat.lt_trichotomy k a.length with hk | hk | hk
  · have h4 := h3 (by simp; omega)
    rw [List.getElem?_append_left hk] at h4
    have := ha _ (List.mem_of_getElem? h4)
    have e : (47 : UInt8).toNat = 47 := rfl
    omega
  · exact hk
  · refine absurd ?_ (h2 a.length hk)
    simp

def neverL : List UInt8 := [110, 101, 118, 101, 114]
/-- l is the text of the time n/d. -/
def T (l : List UInt8) (n d : Int) : Prop := In64 n ∧ In64 d ∧ rightB n d = true ∧ l = textL n d
theorem T_never : T neverL 1 0 := ⟨⟨by omega, by omega⟩, ⟨by omega, by omega⟩, right_never, rfl⟩
/-- What the parts are. -/
def Parts (l : List UInt8) (k : Nat) (n d : Int) : Prop := 0 ≤ n ∧ ((k = l.length ∧ d = 1 ∧ l = Lib.decDigits n.toNat) ∨ (k < l.length ∧ 1 < d ∧ l.take k = Lib.decDigits n.toNat ∧ l.drop (k + 1) = Lib.decDigits d.toNat))
theorem T_text {l : List UInt8} {n d : Int} (h : T l n d) : (n = 1 ∧ d = 0 ∧ l = neverL) ∨ (0 ≤ n ∧ ((d = 1 ∧ l = Lib.decDigits n.toNat) ∨ (1 < d ∧ l = Lib.decDigits n.toNat ++ 47 :: Lib.decDigits d.toNat))) := by
  obtain ⟨hn, hd, hr, hl⟩ := h
  unfold textL at hl
  by_cases hv : isNever n d
  · rw [if_pos hv] at hl
    exact .inl ⟨hv.1, hv.2, hl⟩
  · rw [if_neg hv] at hl
    have hp := plain_of hr hv
    refine .inr ⟨hp.2.1, ?_⟩
    by_cases h1 : d = 1
    · rw [if_pos h1] at hl
      exact .inl ⟨h1, hl⟩
    · rw [if_neg h1] at hl
      exact .inr ⟨by have := hp.1; omega, hl⟩
theorem T_parts {l : List UInt8} {n d : Int} {k : Nat} (h : T l n d) (hne : l ≠ neverL) (hf : First l k) : Parts l k n d := by
  rcases T_text h with ⟨_, _, e⟩ | ⟨h0, ⟨h1, e⟩ | ⟨h1, e⟩⟩
  · exact absurd e hne
  · refine ⟨h0, .inl ⟨?_, h1, e⟩⟩
    rw [e] at hf ⊢
    exact first_digits (dec_chars _) hf
  · rw [e] at hf ⊢
    have hk := first_cut (dec_chars _) hf
    refine ⟨h0, .inr ⟨?_, h1, ?_, ?_⟩⟩
    · rw [hk]; simp
    · rw [hk]; simp
    · rw [hk, List.drop_append]; simp
theorem never_first {n : Nat} {r : List UInt8} (h : neverL = Lib.decDigits n ++ r) : False := by
  obtain ⟨c, l, e, _⟩ := dec_head n
  have hc := dec_chars n c (by rw [e]; simp)
  rw [e] at h
  injection h with h1 h2
  rw [← h1] at hc
  have : (110 : UInt8).toNat = 110 := rfl
  omega
theorem T_is_never {n d : Int} (h : T neverL n d) : n = 1 ∧ d = 0 := by
  rcases T_text h with ⟨h1, h2, _⟩ | ⟨_, ⟨_, e⟩ | ⟨_, e⟩⟩
  · exact ⟨h1, h2⟩
  · exact (never_first (r := []) (by simpa using e)).elim
  · exact (never_first e).elim
theorem T_of_parts {l : List UInt8} {n d : Int} {k : Nat} (hn : In64 n) (hd : In64 d) (hr : rightB n d = true) (hf : First l k) (h : Parts l k n d) : T l n d := by
  refine ⟨hn, hd, hr, ?_⟩
  unfold textL
  obtain ⟨h0, ⟨_, h2, h3⟩ | ⟨h1, h2, h3, h4⟩⟩ := h
  · rw [if_neg (by unfold isNever; omega), if_pos h2]
    exact h3
  · rw [if_neg (by unfold isNever; omega), if_neg (by omega), ← h3, ← h4]
    have e := hf.2.2 h1
    have e2 : l[k] = 47 := by
      rw [List.getElem?_eq_getElem h1] at e
      exact Option.some.inj e
    rw [← e2, ← List.drop_eq_getElem_cons h1, List.take_append_drop]
theorem first_is (l : List UInt8) : ∃ k, First l k := by
  induction l with
  | nil => exact ⟨0, Nat.le_refl _, fun j hj => absurd hj (Nat.not_lt_zero _), fun h => absurd h (Nat.lt_irrefl _)⟩
  | cons c l ih =>
    by_cases h : c = 47
    · exact ⟨0, Nat.zero_le _, fun j hj => absurd hj (Nat.not_lt_zero _), fun _ => by rw [h]; rfl⟩
    · obtain ⟨k, h1, h2, h3⟩ := ih
      refine ⟨k + 1, by simp; omega, fun j hj => ?_, fun hk => ?_⟩
      · cases j with
        | zero => simpa using h
        | succ j => simpa using h2 j (by omega)
      · simpa using h3 (by simpa using hk)
theorem parts_inj {l : List UInt8} {k : Nat} {n d n' d' : Int} (h : Parts l k n d) (h' : Parts l k n' d') : n = n' ∧ d = d' := by
  obtain ⟨h0, ⟨a1, a2, a3⟩ | ⟨a1, a2, a3, a4⟩⟩ := h <;> obtain ⟨h0', ⟨b1, b2, b3⟩ | ⟨b1, b2, b3, b4⟩⟩ := h'
  · have := dec_inj (a3.symm.trans b3)
    omega
  · omega
  · omega
  · have e1 := dec_inj (a3.symm.trans b3)
    have e2 := dec_inj (a4.symm.trans b4)
    omega
theorem T_inj {l : List UInt8} {n d n' d' : Int} (h : T l n d) (h' : T l n' d') : n = n' ∧ d = d' := by
  by_cases e : l = neverL
  · subst e
    have h1 := T_is_never h
    have h2 := T_is_never h'
    omega
  · obtain ⟨k, hf⟩ := first_is l
    exact parts_inj (T_parts h e hf) (T_parts h' e hf)
theorem T_ne {l : List UInt8} {n d : Int} (h : T l n d) : l ≠ [] := by
  rcases T_text h with ⟨_, _, e⟩ | ⟨_, ⟨_, e⟩ | ⟨_, e⟩⟩ <;> rw [e]
  · simp [neverL]
  · exact dec_ne _
  · simp
/-- The library's cut. -/
theorem cut_first (l : List UInt8) : ∃ k, First l k ∧ Lib.cut l [47] = if k < l.length then (l.take k, l.drop (k + 1), true) else (l, [], false) := by
  unfold Lib.cut
  rcases Lib.index_spec l [47] with ⟨h1, h2⟩ | ⟨i, h1, h2, h3, h4⟩
  · refine ⟨l.length, ⟨Nat.le_refl _, fun j hj e => ?_, fun h => absurd h (Nat.lt_irrefl _)⟩, ?_⟩
    · have := h2 j (by omega)
      rw [Lib.occAt, List.drop_eq_getElem_cons hj] at this
      rw [List.getElem?_eq_getElem hj] at e
      simp at e
      rw [e] at this
      simp at this
    · rw [if_neg (by omega), if_neg (Nat.lt_irrefl _)]
  · have hi : i < l.length ∧ l[i]? = some 47 := by
      rw [Lib.occAt] at h3
      rcases Nat.lt_or_ge i l.length with hlt | hge
      · rw [List.drop_eq_getElem_cons hlt] at h3
        simp only [List.isPrefixOf, Bool.and_eq_true, beq_iff_eq] at h3
        exact ⟨hlt, by rw [List.getElem?_eq_getElem hlt, ← h3.1]⟩
      · rw [List.drop_eq_nil_of_le hge] at h3
        simp at h3
    refine ⟨i, ⟨h2, fun j hj e => ?_, fun _ => hi.2⟩, ?_⟩
    · have := h4 j hj
      have hjl : j < l.length := by omega
      rw [Lib.occAt, List.drop_eq_getElem_cons hjl] at this
      rw [List.getElem?_eq_getElem hjl] at e
      simp at e
      rw [e] at this
      simp at this
    · rw [if_pos (by omega), if_pos hi.1, h1]
      rfl
end Go.Proofs.YtaicfgimaeojbaaDoor.Tx
