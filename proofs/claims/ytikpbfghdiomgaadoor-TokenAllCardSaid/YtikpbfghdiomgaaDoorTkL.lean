/-
  Mathematics of layer 8: a word's text; all words of a text that are written anew; a text cut off. No condition but those that each theorem states.
-/
import Derived.Test.YtikpbfghdiomgaaDoorTkM
namespace Go.Proofs.YtikpbfghdiomgaaDoor.Tk

/-! The text of a number. -/
def digit (n : Nat) : UInt8 := UInt8.ofNat (48 + n % 10)
theorem digit_nat (n : Nat) : (digit n).toNat = 48 + n % 10 := by
  unfold digit
  have : n % 10 < 10 := Nat.mod_lt _ (by decide)
  simp only [UInt8.toNat_ofNat']
  omega
/-- The digits of what is left, ahead of what stands already. -/
def decGo : Nat → Nat → Bs → Bs
  | 0, _, acc => acc
  | f + 1, n, acc => if n = 0 then acc else decGo f (n / 10) (digit n :: acc)
/-- As the law writes it: the last digit, then the others ahead of it. -/
def dec (n : Nat) : Bs := decGo n (n / 10) [digit n]
theorem decGo_acc : ∀ (f n : Nat) (acc : Bs), decGo f n acc = decGo f n [] ++ acc
  | 0, _, _ => rfl
  | f + 1, n, acc => by
    unfold decGo
    by_cases h : n = 0
    · rw [if_pos h, if_pos h]; rfl
    · rw [if_neg h, if_neg h, decGo_acc f (n / 10) (digit n :: acc), decGo_acc f (n / 10) [digit n], List.append_assoc]
      rfl
theorem decGo_fuel : ∀ (f f' n : Nat) (acc : Bs), n ≤ f → n ≤ f' → decGo f n acc = decGo f' n acc
  | 0, f', n, acc, h, _ => by
    obtain rfl : n = 0 := by omega
    cases f' with
    | zero => rfl
    | succ f' => unfold decGo; rw [if_pos rfl]
  | f + 1, 0, n, acc, _, h => by
    obtain rfl : n = 0 := by omega
    unfold decGo; rw [if_pos rfl]
  | f + 1, f' + 1, n, acc, h1, h2 => by
    unfold decGo
    by_cases h : n = 0
    · rw [if_pos h, if_pos h]
    · rw [if_neg h, if_neg h]
      have : n / 10 < n := Nat.div_lt_self (by omega) (by decide)
      exact decGo_fuel f f' (n / 10) _ (by omega) (by omega)
theorem dec_small {n : Nat} (h : n < 10) : dec n = [digit n] := by
  unfold dec
  rw [show n / 10 = 0 from by omega]
  cases n <;> (unfold decGo; first | rfl | rw [if_pos rfl])
theorem dec_more {n : Nat} (h : 10 ≤ n) : dec n = dec (n / 10) ++ [digit n] := by
  unfold dec
  obtain ⟨m, rfl⟩ : ∃ m, n = m + 1 := ⟨n - 1, by omega⟩
  have h1 : ¬ (m + 1) / 10 = 0 := by omega
  have h2 : (m + 1) / 10 < m + 1 := Nat.div_lt_self (by omega) (by decide)
  rw [show decGo (m + 1) ((m + 1) / 10) [digit (m + 1)] = decGo m ((m + 1) / 10 / 10) [digit ((m + 1) / 10), digit (m + 1)] from by
    conv => lhs; unfold decGo
    rw [if_neg h1]]
  rw [decGo_acc, decGo_acc ((m + 1) / 10) _ [digit ((m + 1) / 10)], List.append_assoc]
  congr 1
  exact decGo_fuel _ _ _ _ (by omega) (by omega)
theorem numV_snoc (l : Bs) (c : UInt8) : numV (l ++ [c]) = numV l * 10 + (c.toNat - 48) := by
  unfold numV
  rw [List.foldl_append]
  rfl
theorem isD_iff {c : UInt8} : isD c = true ↔ 48 ≤ c.toNat ∧ c.toNat ≤ 57 := by unfold isD; exact decide_eq_true_iff
theorem u8_eq {a b : UInt8} (h : a.toNat = b.toNat) : a = b := UInt8.toNat_inj.1 h
theorem dec_numV : ∀ (k : Nat) (l : Bs), l.length = k + 1 → (∀ c ∈ l, isD c = true) → (k = 0 ∨ ∃ c r, l = c :: r ∧ c.toNat ≠ 48) → dec (numV l) = l ∧ ((∃ c r, l = c :: r ∧ c.toNat ≠ 48) → 0 < numV l)
  | 0, l, hl, hd, _ => by
    match l, hl with
    | [c], _ =>
      have h1 := isD_iff.1 (hd c (List.mem_singleton.2 rfl))
      have h2 : numV [c] = c.toNat - 48 := by unfold numV; simp
      rw [h2]
      refine ⟨?_, fun ⟨x, r, e, hx⟩ => ?_⟩
      · rw [dec_small (by omega)]
        congr 1
        refine u8_eq ?_
        rw [digit_nat]
        omega
      · have : c = x := by simpa using (List.cons.inj e).1
        rw [← this] at hx
        omega
  | k + 1, l, hl, hd, hc => by
    rcases List.eq_nil_or_concat l with rfl | ⟨a, c, rfl⟩
    · simp at hl
    · rw [List.concat_eq_append] at *
      have hal : a.length = k + 1 := by simpa using hl
      have hca : ∃ c r, a = c :: r ∧ c.toNat ≠ 48 := by
        rcases hc with h | ⟨x, r, e, hx⟩
        · omega
        · match a, hal with
          | y :: a, _ =>
            have : y = x := by simpa using (List.cons.inj e).1
            exact ⟨y, a, rfl, by rw [this]; exact hx⟩
      obtain ⟨i1, i2⟩ := dec_numV k a hal (fun c h => hd c (List.mem_append_left _ h)) (.inr hca)
      have h0 := i2 hca
      have h1 := isD_iff.1 (hd c (by simp))
      rw [numV_snoc]
      refine ⟨?_, fun _ => by omega⟩
      rw [dec_more (by omega), show (numV a * 10 + (c.toNat - 48)) / 10 = numV a from by omega, i1]
      congr 2
      refine u8_eq ?_
      rw [digit_nat]
      omega

/-- A word's text. -/
def txt (w : W) : Bs := if w.kind = 1 then dec w.n else if w.kind = 2 then 39 :: w.s else w.s
theorem word_txt {l : Bs} (h : (word l).1 = 0) (p : Nat) : txt ⟨(word l).2.1, (word l).2.2.1, (word l).2.2.2.1, p⟩ = l.take (word l).2.2.2.2 := by
  match l with
  | [] => simp [word] at h
  | c :: l =>
    by_cases h1 : isL c = true
    · have hw : word (c :: l) = if 16 < ((c :: l).takeWhile isN).length then (9, 0, [], 0, 0) else (0, 0, (c :: l).takeWhile isN, 0, ((c :: l).takeWhile isN).length) := by
        show (if isL c = true then _ else _) = _
        rw [if_pos h1]
      by_cases h2 : 16 < ((c :: l).takeWhile isN).length
      · rw [hw, if_pos h2] at h; cases h
      · rw [if_neg h2] at hw
        rw [hw]
        simp only [txt]
        rw [tw_take]
        rfl
    · by_cases h2 : c.toNat = 39
      · match l with
        | [] =>
          exfalso
          have : word [c] = (5, 0, [], 0, 0) := by
            show (if isL c = true then _ else if c.toNat = 39 then _ else _) = _
            rw [if_neg h1, if_pos h2]
          rw [this] at h; cases h
        | d :: l =>
          have hw : word (c :: d :: l) = if isL d = true then (if 16 < ((d :: l).takeWhile isN).length then (9, 0, [], 0, 0) else (0, 2, (d :: l).takeWhile isN, 0, ((d :: l).takeWhile isN).length + 1)) else (5, 0, [], 0, 0) := by
            show (if isL c = true then _ else if c.toNat = 39 then _ else _) = _
            rw [if_neg h1, if_pos h2]
          by_cases h3 : isL d = true
          · rw [if_pos h3] at hw
            by_cases h4 : 16 < ((d :: l).takeWhile isN).length
            · rw [hw, if_pos h4] at h; cases h
            · rw [if_neg h4] at hw
              rw [hw]
              simp only [txt]
              rw [List.take_succ_cons, tw_take, if_neg (by decide), if_pos trivial]
              congr 1
              exact u8_eq h2.symm
          · rw [hw, if_neg h3] at h; cases h
      · by_cases h3 : isD c = true
        · have hw : word (c :: l) = if c.toNat = 48 ∧ 1 < ((c :: l).takeWhile isD).length then (6, 0, [], 0, 0) else if 9223372036854775807 < numV ((c :: l).takeWhile isD) then (2, 0, [], 0, 0) else (0, 1, [], numV ((c :: l).takeWhile isD), ((c :: l).takeWhile isD).length) := by
            show (if isL c = true then _ else if c.toNat = 39 then _ else if isD c = true then _ else _) = _
            rw [if_neg h1, if_neg h2, if_pos h3]
          by_cases h4 : c.toNat = 48 ∧ 1 < ((c :: l).takeWhile isD).length
          · rw [hw, if_pos h4] at h; cases h
          · rw [if_neg h4] at hw
            by_cases h5 : 9223372036854775807 < numV ((c :: l).takeWhile isD)
            · rw [hw, if_pos h5] at h; cases h
            · rw [if_neg h5] at hw
              rw [hw]
              simp only [txt]
              rw [tw_take, if_pos trivial]
              obtain ⟨k, hk⟩ : ∃ k, ((c :: l).takeWhile isD).length = k + 1 := ⟨((c :: l).takeWhile isD).length - 1, by have := tw_pos (q := isD) (l := l) h3; omega⟩
              refine (dec_numV k _ hk (tw_all _) ?_).1
              by_cases hk0 : k = 0
              · exact .inl hk0
              · refine .inr ⟨c, l.takeWhile isD, by rw [List.takeWhile_cons_of_pos h3], fun e => h4 ⟨e, by omega⟩⟩
        · have hw : word (c :: l) = if markLen (c :: l) = 0 then (5, 0, [], 0, 0) else (0, 3, (c :: l).take (markLen (c :: l)), 0, markLen (c :: l)) := by
            show (if isL c = true then _ else if c.toNat = 39 then _ else if isD c = true then _ else _) = _
            rw [if_neg h1, if_neg h2, if_neg h3]
          by_cases h4 : markLen (c :: l) = 0
          · rw [hw, if_pos h4] at h; cases h
          · rw [if_neg h4] at hw
            rw [hw]
            simp only [txt]
            rw [if_neg (by decide), if_neg (by decide)]
theorem ones_no {c : UInt8} (h : ones.contains c = true) : isB c = false ∧ c.toNat ≠ 35 := by
  simp [ones] at h
  rcases h with rfl | rfl | rfl | rfl | rfl | rfl | rfl | rfl | rfl | rfl | rfl | rfl | rfl | rfl | rfl <;> decide
theorem isB_no {c : UInt8} (h : c.toNat ≠ 32 ∧ c.toNat ≠ 9 ∧ c.toNat ≠ 10) : isB c = false := by
  unfold isB
  exact decide_eq_false (by omega)
/-- A word begins with nothing that stands between words. -/
theorem word_first {c : UInt8} {l : Bs} (h : (word (c :: l)).1 = 0) : isB c = false ∧ c.toNat ≠ 35 := by
  by_cases h1 : isL c = true
  · have := of_decide_eq_true (show decide (97 ≤ c.toNat ∧ c.toNat ≤ 122) = true from h1)
    exact ⟨isB_no (by omega), by omega⟩
  · by_cases h2 : c.toNat = 39
    · exact ⟨isB_no (by omega), by omega⟩
    · by_cases h3 : isD c = true
      · have := isD_iff.1 h3
        exact ⟨isB_no (by omega), by omega⟩
      · have hw : word (c :: l) = if markLen (c :: l) = 0 then (5, 0, [], 0, 0) else (0, 3, (c :: l).take (markLen (c :: l)), 0, markLen (c :: l)) := by
          show (if isL c = true then _ else if c.toNat = 39 then _ else if isD c = true then _ else _) = _
          rw [if_neg h1, if_neg h2, if_neg h3]
        by_cases h4 : markLen (c :: l) = 0
        · rw [hw, if_pos h4] at h; cases h
        · by_cases ho : ones.contains c = true
          · exact ones_no ho
          · match l with
            | [] =>
              exfalso
              refine h4 ?_
              show (if _ then _ else _) = _
              rw [if_neg ho]
            | d :: l =>
              by_cases h6 : two c d = true
              · have := of_decide_eq_true (show decide ((c.toNat = 45 ∧ d.toNat = 62) ∨ (c.toNat = 60 ∧ d.toNat = 61)) = true from h6)
                exact ⟨isB_no (by omega), by omega⟩
              · exfalso
                refine h4 ?_
                show (if two c d = true then _ else if _ then _ else _) = _
                rw [if_neg h6, if_neg ho]
/-- What a word may be. -/
def WOk (w : W) : Prop := ∃ l, (word l).1 = 0 ∧ w.kind = (word l).2.1 ∧ w.s = (word l).2.2.1 ∧ w.n = (word l).2.2.2.1
theorem WOk.txt {w : W} (h : WOk w) : ∃ l, (word l).1 = 0 ∧ txt w = l.take (word l).2.2.2.2 ∧ (txt w).length = (word l).2.2.2.2 ∧ w.kind = (word l).2.1 ∧ w.s = (word l).2.2.1 ∧ w.n = (word l).2.2.2.1 := by
  obtain ⟨l, h1, h2, h3, h4⟩ := h
  have e : Tk.txt w = l.take (word l).2.2.2.2 := by
    have := word_txt h1 w.p
    rw [← h2, ← h3, ← h4] at this
    exact this
  exact ⟨l, h1, e, by rw [e, List.length_take, Nat.min_eq_left (word_len h1).2], h2, h3, h4⟩
theorem WOk.again {w : W} (h : WOk w) {r : Bs} (hr : Sep r) : word (Tk.txt w ++ r) = (0, w.kind, w.s, w.n, (Tk.txt w).length) ∧ 0 < (Tk.txt w).length := by
  obtain ⟨l, h1, h2, h3, h4, h5, h6⟩ := h.txt
  have := word_again h1 hr
  rw [← h2] at this
  rw [this, h3, h4, h5, h6, ← h1]
  exact ⟨rfl, (word_len h1).1⟩

/-! All words. -/
theorem lex_cons (f p : Nat) (c : UInt8) (r : Bs) : lex (f + 1) p (c :: r) =
    if isB c = true then lex f (p + 1) r
    else if c.toNat = 35 then lex f (p + 1 + (r.takeWhile isE).length) (r.drop (r.takeWhile isE).length)
    else if (word (c :: r)).1 = 0 then
      (⟨(word (c :: r)).2.1, (word (c :: r)).2.2.1, (word (c :: r)).2.2.2.1, p⟩ :: (lex f (p + (word (c :: r)).2.2.2.2) ((c :: r).drop (word (c :: r)).2.2.2.2)).1,
        (lex f (p + (word (c :: r)).2.2.2.2) ((c :: r).drop (word (c :: r)).2.2.2.2)).2)
    else ([], some (p, (word (c :: r)).1)) := rfl
theorem lex_nil (f p : Nat) : lex (f + 1) p [] = ([⟨4, [], 0, p⟩], none) := rfl
theorem lex_fuel : ∀ (f f' p : Nat) (l : Bs), l.length < f → l.length < f' → lex f p l = lex f' p l
  | 0, _, _, _, h, _ => absurd h (Nat.not_lt_zero _)
  | _ + 1, 0, _, _, _, h => absurd h (Nat.not_lt_zero _)
  | f + 1, f' + 1, p, [], _, _ => rfl
  | f + 1, f' + 1, p, c :: r, h1, h2 => by
    rw [List.length_cons] at h1 h2
    rw [lex_cons, lex_cons]
    by_cases hb : isB c = true
    · rw [if_pos hb, if_pos hb]
      exact lex_fuel f f' _ r (by omega) (by omega)
    · rw [if_neg hb, if_neg hb]
      by_cases hr : c.toNat = 35
      · rw [if_pos hr, if_pos hr]
        exact lex_fuel f f' _ _ (by rw [List.length_drop]; omega) (by rw [List.length_drop]; omega)
      · rw [if_neg hr, if_neg hr]
        by_cases hw : (word (c :: r)).1 = 0
        · have hl := (word_len hw).1
          rw [if_pos hw, if_pos hw, lex_fuel f f' _ ((c :: r).drop (word (c :: r)).2.2.2.2) (by rw [List.length_drop, List.length_cons]; omega) (by rw [List.length_drop, List.length_cons]; omega)]
        · rw [if_neg hw, if_neg hw]
/-- The words of a text without an error: words that may be, at rising places, and the End. -/
theorem lex_shape : ∀ (f p : Nat) (l : Bs) (ws : List W), l.length < f → lex f p l = (ws, none) → ∃ us, ws = us ++ [⟨4, [], 0, p + l.length⟩] ∧ (∀ u ∈ us, WOk u ∧ p ≤ u.p ∧ u.p + (Tk.txt u).length ≤ p + l.length) ∧ us.Pairwise (fun a b => a.p < b.p)
  | 0, _, _, _, h, _ => absurd h (Nat.not_lt_zero _)
  | f + 1, p, [], ws, _, h => by
    rw [lex_nil] at h
    cases h
    exact ⟨[], by simp, fun u hu => absurd hu (by simp), List.Pairwise.nil⟩
  | f + 1, p, c :: r, ws, hl, h => by
    rw [List.length_cons] at hl
    rw [lex_cons] at h
    by_cases hb : isB c = true
    · rw [if_pos hb] at h
      obtain ⟨us, e1, e2, e3⟩ := lex_shape f (p + 1) r ws (by omega) h
      refine ⟨us, by rw [e1, List.length_cons]; congr 3; omega, fun u hu => ?_, e3⟩
      obtain ⟨k1, k2, k3⟩ := e2 u hu
      rw [List.length_cons]
      exact ⟨k1, by omega, by omega⟩
    · rw [if_neg hb] at h
      by_cases hr : c.toNat = 35
      · rw [if_pos hr] at h
        have htw := tw_le (q := isE) r
        obtain ⟨us, e1, e2, e3⟩ := lex_shape f _ _ ws (by rw [List.length_drop]; omega) h
        refine ⟨us, by rw [e1, List.length_cons, List.length_drop]; congr 3; omega, fun u hu => ?_, e3⟩
        obtain ⟨k1, k2, k3⟩ := e2 u hu
        rw [List.length_drop] at k3
        rw [List.length_cons]
        exact ⟨k1, by omega, by omega⟩
      · rw [if_neg hr] at h
        by_cases hw : (word (c :: r)).1 = 0
        · rw [if_pos hw] at h
          obtain ⟨hl1, hl2⟩ := word_len hw
          obtain ⟨k, hk⟩ : ∃ k, (word (c :: r)).2.2.2.2 = k := ⟨_, rfl⟩
          have htx := word_txt hw p
          rw [hk] at h hl1 hl2 htx
          obtain ⟨X, hX⟩ : ∃ X, lex f (p + k) ((c :: r).drop k) = X := ⟨_, rfl⟩
          rw [hX] at h
          obtain ⟨X1, X2⟩ := X
          simp only [Prod.mk.injEq] at h
          obtain ⟨h1, h2⟩ := h
          subst h2
          obtain ⟨us, e1, e2, e3⟩ := lex_shape f (p + k) ((c :: r).drop k) X1 (by rw [List.length_drop, List.length_cons]; omega) hX
          have hdl : p + k + ((c :: r).drop k).length = p + (c :: r).length := by rw [List.length_drop]; omega
          rw [hdl] at e1 e2
          refine ⟨⟨(word (c :: r)).2.1, (word (c :: r)).2.2.1, (word (c :: r)).2.2.2.1, p⟩ :: us, by rw [← h1, e1]; rfl, fun u hu => ?_, List.pairwise_cons.2 ⟨fun u hu => ?_, e3⟩⟩
          · rcases List.mem_cons.1 hu with rfl | hu
            · refine ⟨⟨c :: r, hw, rfl, rfl, rfl⟩, Nat.le_refl _, ?_⟩
              rw [htx, List.length_take, Nat.min_eq_left hl2]
              show p + k ≤ p + (c :: r).length
              omega
            · obtain ⟨k1, k2, k3⟩ := e2 u hu
              exact ⟨k1, by omega, k3⟩
          · have := (e2 u hu).2.1
            show p < u.p
            omega
        · rw [if_neg hw] at h
          cases h
/-- What stands between words here: a blank, or a remark and a line end. -/
def Gap (g : Bs) : Prop := g = [32] ∨ g = [35, 120, 10]
theorem Gap.sep {g : Bs} (h : Gap g) (r : Bs) : Sep (g ++ r) := by
  rcases h with rfl | rfl
  · exact .inr ⟨32, r, rfl, .inl (by decide)⟩
  · exact .inr ⟨35, 120 :: 10 :: r, rfl, .inr (by decide)⟩
theorem Gap.step {g : Bs} (h : Gap g) (f p : Nat) (r : Bs) (hl : (g ++ r).length < f) : lex f p (g ++ r) = lex (r.length + 1) (p + g.length) r := by
  rcases h with rfl | rfl
  · obtain ⟨f, rfl⟩ : ∃ f', f = f' + 1 := ⟨f - 1, by simp at hl; omega⟩
    show lex (f + 1) p (32 :: r) = _
    rw [lex_cons, if_pos (by decide)]
    exact lex_fuel _ _ _ _ (by simp at hl; omega) (by omega)
  · obtain ⟨f, rfl⟩ : ∃ f', f = f' + 1 + 1 := ⟨f - 2, by simp at hl; omega⟩
    show lex (f + 1 + 1) p (35 :: 120 :: 10 :: r) = _
    have htw : ((120 : UInt8) :: 10 :: r).takeWhile isE = [120] := by
      rw [List.takeWhile_cons_of_pos (by decide), List.takeWhile_cons_of_neg (by decide)]
    rw [lex_cons, if_neg (by decide), if_pos (by decide), htw]
    show lex (f + 1) (p + 1 + 1) (10 :: r) = _
    rw [lex_cons, if_pos (by decide)]
    exact lex_fuel _ _ _ _ (by simp at hl; omega) (by omega)
/-- WORDS WRITTEN ANEW ARE THE SAME WORDS. -/
theorem lex_again {g : Bs} (hg : Gap g) : ∀ (us : List W), (∀ u ∈ us, WOk u) → ∀ (f p : Nat), ((us.flatMap fun u => Tk.txt u ++ g) ++ g).length < f →
    ∃ vs, lex f p ((us.flatMap fun u => Tk.txt u ++ g) ++ g) = (vs ++ [⟨4, [], 0, p + ((us.flatMap fun u => Tk.txt u ++ g) ++ g).length⟩], none) ∧ vs.map (fun u => (u.kind, u.s, u.n)) = us.map (fun u => (u.kind, u.s, u.n))
  | [], _, f, p, hl => by
    simp only [List.flatMap_nil, List.nil_append] at hl ⊢
    have := hg.step f p [] (by simpa using hl)
    rw [List.append_nil] at this
    rw [this]
    exact ⟨[], rfl, rfl⟩
  | u :: us, hu, f, p, hl => by
    obtain ⟨R, hR⟩ : ∃ R, (us.flatMap fun u => Tk.txt u ++ g) ++ g = R := ⟨_, rfl⟩
    have hsh : ((u :: us).flatMap fun u => Tk.txt u ++ g) ++ g = Tk.txt u ++ (g ++ R) := by
      rw [List.flatMap_cons, ← hR]
      simp only [List.append_assoc]
    rw [hsh] at hl ⊢
    obtain ⟨hw, hpos⟩ := (hu u (List.mem_cons_self ..)).again (hg.sep R)
    obtain ⟨T, hT⟩ : ∃ T, Tk.txt u = T := ⟨_, rfl⟩
    rw [hT] at hl hw hpos ⊢
    obtain ⟨f, rfl⟩ : ∃ f', f = f' + 1 := ⟨f - 1, by omega⟩
    match T, hpos with
    | c :: T, _ =>
      have hc : (c :: T) ++ (g ++ R) = c :: (T ++ (g ++ R)) := rfl
      have h0 : (word (c :: (T ++ (g ++ R)))).1 = 0 := by rw [← hc, hw]
      obtain ⟨w1, w2⟩ := word_first h0
      rw [hc, lex_cons, if_neg (by rw [w1]; decide), if_neg w2, if_pos h0, ← hc, hw]
      simp only
      have hd : ((c :: T) ++ (g ++ R)).drop (c :: T).length = g ++ R := List.drop_left
      rw [hd, hg.step f _ R (by simp only [List.length_append, List.length_cons] at hl ⊢; omega)]
      obtain ⟨vs, e1, e2⟩ := lex_again hg us (fun v hv => hu v (List.mem_cons_of_mem _ hv)) (R.length + 1) (p + (c :: T).length + g.length) (by rw [hR]; omega)
      rw [hR] at e1
      rw [e1]
      refine ⟨⟨u.kind, u.s, u.n, p⟩ :: vs, ?_, ?_⟩
      · simp only [List.cons_append]
        congr 4
        simp only [W.mk.injEq, true_and]
        simp only [List.length_cons, List.length_append]
        omega
      · rw [List.map_cons, List.map_cons, e2]
end Go.Proofs.YtikpbfghdiomgaaDoor.Tk
