/-
  Mathematics of layer 8: a text cut off behind a word; what Scan answers. No condition but those that each theorem states.
-/
import Derived.Test.YtikpbfghdiomgaaDoorTkL
namespace Go.Proofs.YtikpbfghdiomgaaDoor.Tk

theorem drop_take_add (l : Bs) (k m : Nat) : (l.take (k + m)).drop k = (l.drop k).take m := by
  rw [List.drop_take]
  congr 1
  omega
/-- A TEXT CUT OFF BEHIND A WORD has just the words ahead of the cut, and the End there. -/
theorem lex_cut : ∀ (f p : Nat) (l : Bs) (us : List W) (e : W), l.length < f → lex f p l = (us ++ [e], none) → ∀ (n : Nat) (t : W), us[n]? = some t →
    p ≤ t.p ∧ t.p - p + (txt t).length ≤ l.length ∧ ∀ f', (l.take (t.p - p + (txt t).length)).length < f' → lex f' p (l.take (t.p - p + (txt t).length)) = (us.take (n + 1) ++ [⟨4, [], 0, t.p + (txt t).length⟩], none)
  | 0, _, _, _, _, h, _, _, _, _ => absurd h (Nat.not_lt_zero _)
  | f + 1, p, [], us, e, _, h, n, t, hn => by
    rw [lex_nil] at h
    have h1 := congrArg (fun x => x.1.length) h
    simp at h1
    rw [h1] at hn
    cases hn
  | f + 1, p, c :: r, us, e, hl, h, n, t, hn => by
    rw [List.length_cons] at hl
    rw [lex_cons] at h
    by_cases hb : isB c = true
    · rw [if_pos hb] at h
      obtain ⟨i1, i2, i3⟩ := lex_cut f (p + 1) r us e (by omega) h n t hn
      have hc : t.p - p + (txt t).length = (t.p - (p + 1) + (txt t).length) + 1 := by omega
      rw [hc, List.take_succ_cons, List.length_cons]
      refine ⟨by omega, by omega, fun f' hf => ?_⟩
      obtain ⟨f', rfl⟩ : ∃ f'', f' = f'' + 1 := ⟨f' - 1, by omega⟩
      rw [List.length_cons] at hf
      rw [lex_cons, if_pos hb]
      exact i3 f' (by omega)
    · rw [if_neg hb] at h
      by_cases hr : c.toNat = 35
      · rw [if_pos hr] at h
        obtain ⟨k, hk⟩ : ∃ k, (r.takeWhile isE).length = k := ⟨_, rfl⟩
        have hkl := tw_le (q := isE) r
        rw [hk] at h hkl
        obtain ⟨i1, i2, i3⟩ := lex_cut f (p + 1 + k) (r.drop k) us e (by rw [List.length_drop]; omega) h n t hn
        rw [List.length_drop] at i2
        obtain ⟨m, hm⟩ : ∃ m, t.p - (p + 1 + k) + (txt t).length = m := ⟨_, rfl⟩
        rw [hm] at i2 i3
        have hc : t.p - p + (txt t).length = (k + m) + 1 := by omega
        have htw : (r.take (k + m)).takeWhile isE = r.takeWhile isE := take_tw r (k + m) (by omega)
        rw [hc, List.take_succ_cons, List.length_cons]
        refine ⟨by omega, by omega, fun f' hf => ?_⟩
        obtain ⟨f', rfl⟩ : ∃ f'', f' = f'' + 1 := ⟨f' - 1, by omega⟩
        rw [List.length_cons, List.length_take] at hf
        rw [lex_cons, if_neg hb, if_pos hr, htw, hk, drop_take_add]
        refine i3 f' ?_
        rw [List.length_take, List.length_drop]
        omega
      · rw [if_neg hr] at h
        by_cases hw : (word (c :: r)).1 = 0
        · rw [if_pos hw] at h
          obtain ⟨hl1, hl2⟩ := word_len hw
          have htx := word_txt hw p
          have hwt := fun m => word_take (m := m) hw
          obtain ⟨k, hk⟩ : ∃ k, (word (c :: r)).2.2.2.2 = k := ⟨_, rfl⟩
          rw [hk] at h hl1 hl2 htx hwt
          obtain ⟨w0, hw0⟩ : ∃ w0 : W, (⟨(word (c :: r)).2.1, (word (c :: r)).2.2.1, (word (c :: r)).2.2.2.1, p⟩ : W) = w0 := ⟨_, rfl⟩
          rw [hw0] at h htx
          obtain ⟨X, hX⟩ : ∃ X, lex f (p + k) ((c :: r).drop k) = X := ⟨_, rfl⟩
          rw [hX] at h
          obtain ⟨X1, X2⟩ := X
          simp only [Prod.mk.injEq] at h
          obtain ⟨h1, h2⟩ := h
          subst h2
          have hdl : ((c :: r).drop k).length < f := by rw [List.length_drop, List.length_cons]; omega
          obtain ⟨us', e1, _, _⟩ := lex_shape f (p + k) ((c :: r).drop k) X1 hdl hX
          rw [e1] at h1 hX
          have h3 : (w0 :: us') ++ [⟨4, [], 0, p + k + ((c :: r).drop k).length⟩] = us ++ [e] := h1
          obtain ⟨h4, h5⟩ := List.append_inj' h3 rfl
          subst h4
          have htl : (txt w0).length = k := by rw [htx, List.length_take, Nat.min_eq_left hl2]
          -- the walk of the text that is cut off, as far as the first word
          have first : ∀ m f', k ≤ k + m → ((c :: r).take (k + m)).length < f' + 1 → lex (f' + 1) p ((c :: r).take (k + m)) = (w0 :: (lex f' (p + k) (((c :: r).drop k).take m)).1, (lex f' (p + k) (((c :: r).drop k).take m)).2) := by
            intro m f' hm _
            have hw2 := hwt (k + m) hm
            obtain ⟨q, hq⟩ : ∃ q, k + m = q + 1 := ⟨k + m - 1, by omega⟩
            have hdt := drop_take_add (c :: r) k m
            rw [hq, List.take_succ_cons] at hw2 hdt
            rw [hq, List.take_succ_cons, lex_cons, if_neg hb, if_neg hr, hw2, if_pos hw, hk, hdt, hw0]
          have hp0 : w0.p = p := by rw [← hw0]
          cases n with
          | zero =>
            obtain rfl : w0 = t := by simpa using hn
            rw [htl, hp0]
            refine ⟨Nat.le_refl _, by omega, fun f' hf => ?_⟩
            have hsub : p - p + k = k + 0 := by omega
            rw [hsub] at hf ⊢
            have hlk : ((c :: r).take (k + 0)).length = k := by rw [List.length_take]; omega
            obtain ⟨f', rfl⟩ : ∃ f'', f' = f'' + 1 + 1 := ⟨f' - 2, by omega⟩
            rw [first 0 (f' + 1) (by omega) hf, List.take_zero, lex_nil]
            rfl
          | succ n =>
            have hn' : us'[n]? = some t := by simpa using hn
            obtain ⟨i1, i2, i3⟩ := lex_cut f (p + k) ((c :: r).drop k) us' _ hdl hX n t hn'
            obtain ⟨m, hm⟩ : ∃ m, t.p - (p + k) + (txt t).length = m := ⟨_, rfl⟩
            rw [hm] at i2 i3
            have hc : t.p - p + (txt t).length = k + m := by omega
            rw [hc]
            rw [List.length_drop] at i2
            refine ⟨by omega, by omega, fun f' hf => ?_⟩
            have hlk : ((c :: r).take (k + m)).length = k + m := by rw [List.length_take]; omega
            obtain ⟨f', rfl⟩ : ∃ f'', f' = f'' + 1 := ⟨f' - 1, by omega⟩
            rw [first m f' (by omega) hf, i3 f' (by rw [List.length_take, List.length_drop]; omega)]
            rfl
        · rw [if_neg hw] at h
          have := congrArg (fun x => x.2) h
          simp at this
/-- An error's number is none of nought. -/
theorem lex_err : ∀ (f p : Nat) (l : Bs) (ws : List W) (q : Nat) (e : Int), l.length < f → lex f p l = (ws, some (q, e)) → e ≠ 0 ∧ p ≤ q ∧ q < p + l.length
  | 0, _, _, _, _, _, h, _ => absurd h (Nat.not_lt_zero _)
  | f + 1, p, [], ws, q, e, _, h => by rw [lex_nil] at h; cases h
  | f + 1, p, c :: r, ws, q, e, hl, h => by
    rw [List.length_cons] at hl
    rw [lex_cons] at h
    rw [List.length_cons]
    by_cases hb : isB c = true
    · rw [if_pos hb] at h
      obtain ⟨i1, i2, i3⟩ := lex_err f _ _ ws q e (by omega) h
      exact ⟨i1, by omega, by omega⟩
    · rw [if_neg hb] at h
      by_cases hr : c.toNat = 35
      · rw [if_pos hr] at h
        have hkl := tw_le (q := isE) r
        obtain ⟨i1, i2, i3⟩ := lex_err f _ _ ws q e (by rw [List.length_drop]; omega) h
        rw [List.length_drop] at i3
        exact ⟨i1, by omega, by omega⟩
      · rw [if_neg hr] at h
        by_cases hw : (word (c :: r)).1 = 0
        · rw [if_pos hw] at h
          obtain ⟨hl1, hl2⟩ := word_len hw
          obtain ⟨k, hk⟩ : ∃ k, (word (c :: r)).2.2.2.2 = k := ⟨_, rfl⟩
          rw [hk] at h hl1 hl2
          obtain ⟨X, hX⟩ : ∃ X, lex f (p + k) ((c :: r).drop k) = X := ⟨_, rfl⟩
          rw [hX] at h
          obtain ⟨X1, X2⟩ := X
          simp only [Prod.mk.injEq] at h
          obtain ⟨h1, h2⟩ := h
          subst h2
          rw [List.length_cons] at hl2
          obtain ⟨i1, i2, i3⟩ := lex_err f _ _ X1 q e (by rw [List.length_drop, List.length_cons]; omega) hX
          rw [List.length_drop, List.length_cons] at i3
          exact ⟨i1, by omega, by omega⟩
        · rw [if_neg hw] at h
          simp only [Prod.mk.injEq, Option.some.injEq] at h
          obtain ⟨_, rfl, rfl⟩ := h
          exact ⟨hw, Nat.le_refl _, by omega⟩
/-- What Scan answers without an error. -/
theorem scan_ok {l : Bs} (h : (scan l).2.2 = 0) : l.length ≤ 16384 ∧ (scan l).2.1 = 0 ∧ lex (l.length + 1) 0 l = ((scan l).1, none) := by
  unfold scan at h ⊢
  by_cases hl : 16384 < l.length
  · rw [if_pos hl] at h; cases h
  · rw [if_neg hl] at h ⊢
    obtain ⟨X, hX⟩ : ∃ X, lex (l.length + 1) 0 l = X := ⟨_, rfl⟩
    rw [hX] at h ⊢
    obtain ⟨ws, o⟩ := X
    cases o with
    | none => exact ⟨by omega, rfl, rfl⟩
    | some q =>
      obtain ⟨q, e⟩ := q
      exact absurd h (lex_err _ _ _ _ _ _ (Nat.lt_succ_self _) hX).1
theorem scan_no {l : Bs} (h : (scan l).2.2 ≠ 0) : (scan l).1 = [] := by
  unfold scan at h ⊢
  by_cases hl : 16384 < l.length
  · rw [if_pos hl]
  · rw [if_neg hl] at h ⊢
    obtain ⟨X, hX⟩ : ∃ X, lex (l.length + 1) 0 l = X := ⟨_, rfl⟩
    rw [hX] at h ⊢
    obtain ⟨ws, o⟩ := X
    cases o with
    | none => exact absurd rfl h
    | some q => rfl
theorem scan_of {l : Bs} {ws : List W} (hl : l.length ≤ 16384) (h : lex (l.length + 1) 0 l = (ws, none)) : scan l = (ws, 0, 0) := by
  unfold scan
  rw [if_neg (by omega), h]
end Go.Proofs.YtikpbfghdiomgaaDoor.Tk
