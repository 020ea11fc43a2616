/-
  Mathematics of layer 8: words of a text, byte by byte; words written anew are the same words; a text cut off behind a word. No condition but those that each theorem states.
-/
import Derived.Test.YtikpbfghdiomgaaDoorRows
namespace Go.Proofs.YtikpbfghdiomgaaDoor.Tk

abbrev Bs := List UInt8
def isL (c : UInt8) : Bool := decide (97 ≤ c.toNat ∧ c.toNat ≤ 122)
def isD (c : UInt8) : Bool := decide (48 ≤ c.toNat ∧ c.toNat ≤ 57)
def isN (c : UInt8) : Bool := isL c || isD c
def isB (c : UInt8) : Bool := decide (c.toNat = 32 ∨ c.toNat = 9 ∨ c.toNat = 10)
def isE (c : UInt8) : Bool := !decide (c.toNat = 10)
/-- A word: its kind, its text, its number, its place. -/
structure W where
  kind : Nat
  s : Bs
  n : Nat
  p : Nat
deriving DecidableEq
def ones : Bs := [123, 125, 40, 41, 44, 59, 58, 46, 61, 60, 43, 45, 42, 47, 37]
def two (c d : UInt8) : Bool := decide ((c.toNat = 45 ∧ d.toNat = 62) ∨ (c.toNat = 60 ∧ d.toNat = 61))
/-- How long the mark is; 0: there is none. -/
def markLen : Bs → Nat
  | [] => 0
  | [c] => if ones.contains c then 1 else 0
  | c :: d :: _ => if two c d then 2 else if ones.contains c then 1 else 0
/-- The number of digits. -/
def numV (l : Bs) : Nat := l.foldl (fun n c => n * 10 + (c.toNat - 48)) 0
/-- What begins at a place: the error's number; or the word's kind, text, number, length. -/
def word (l : Bs) : Int × Nat × Bs × Nat × Nat :=
  match l with
  | [] => (5, 0, [], 0, 0)
  | c :: r =>
    if isL c then (if 16 < (l.takeWhile isN).length then (9, 0, [], 0, 0) else (0, 0, l.takeWhile isN, 0, (l.takeWhile isN).length))
    else if c.toNat = 39 then
      match r with
      | [] => (5, 0, [], 0, 0)
      | d :: _ => if isL d then (if 16 < (r.takeWhile isN).length then (9, 0, [], 0, 0) else (0, 2, r.takeWhile isN, 0, (r.takeWhile isN).length + 1)) else (5, 0, [], 0, 0)
    else if isD c then
      (if c.toNat = 48 ∧ 1 < (l.takeWhile isD).length then (6, 0, [], 0, 0)
       else if 9223372036854775807 < numV (l.takeWhile isD) then (2, 0, [], 0, 0)
       else (0, 1, [], numV (l.takeWhile isD), (l.takeWhile isD).length))
    else if markLen l = 0 then (5, 0, [], 0, 0) else (0, 3, l.take (markLen l), 0, markLen l)
/-- All words from a place on; where there is an error: those ahead of it, and where it is, and which. -/
def lex : Nat → Nat → Bs → List W × Option (Nat × Int)
  | 0, _, _ => ([], some (0, 0))
  | _ + 1, p, [] => ([⟨4, [], 0, p⟩], none)
  | f + 1, p, c :: r =>
    if isB c then lex f (p + 1) r
    else if c.toNat = 35 then lex f (p + 1 + (r.takeWhile isE).length) (r.drop (r.takeWhile isE).length)
    else if (word (c :: r)).1 = 0 then
      (⟨(word (c :: r)).2.1, (word (c :: r)).2.2.1, (word (c :: r)).2.2.2.1, p⟩ :: (lex f (p + (word (c :: r)).2.2.2.2) ((c :: r).drop (word (c :: r)).2.2.2.2)).1,
        (lex f (p + (word (c :: r)).2.2.2.2) ((c :: r).drop (word (c :: r)).2.2.2.2)).2)
    else ([], some (p, (word (c :: r)).1))
/-- Scan's answer: the words, the place, the error's number. -/
def scan (l : Bs) : List W × Nat × Int :=
  if 16384 < l.length then ([], 0, 9)
  else match lex (l.length + 1) 0 l with
    | (ws, none) => (ws, 0, 0)
    | (_, some (p, e)) => ([], p, e)

theorem take_tw {q : UInt8 → Bool} : ∀ (l : Bs) (m : Nat), (l.takeWhile q).length ≤ m → (l.take m).takeWhile q = l.takeWhile q
  | [], m, _ => by simp
  | c :: l, m, h => by
    by_cases hc : q c = true
    · rw [List.takeWhile_cons_of_pos hc] at h ⊢
      rw [List.length_cons] at h
      obtain ⟨m', rfl⟩ : ∃ m', m = m' + 1 := ⟨m - 1, by omega⟩
      rw [List.take_succ_cons, List.takeWhile_cons_of_pos hc, take_tw l m' (by omega)]
    · rw [List.takeWhile_cons_of_neg hc]
      cases m with
      | zero => rfl
      | succ m => rw [List.take_succ_cons, List.takeWhile_cons_of_neg hc]
theorem tw_le {q : UInt8 → Bool} (l : Bs) : (l.takeWhile q).length ≤ l.length := (List.takeWhile_sublist q).length_le
theorem tw_pos {q : UInt8 → Bool} {c : UInt8} {l : Bs} (h : q c = true) : 0 < ((c :: l).takeWhile q).length := by
  rw [List.takeWhile_cons_of_pos h]
  exact Nat.succ_pos _
theorem isN_of_L {c : UInt8} (h : isL c = true) : isN c = true := by unfold isN; rw [h]; rfl
theorem mark_le (l : Bs) : markLen l ≤ l.length := by
  match l with
  | [] => exact Nat.le_refl _
  | [c] =>
    simp only [markLen, List.length_cons, List.length_nil]
    split <;> omega
  | c :: d :: r =>
    simp only [markLen, List.length_cons]
    (repeat' split) <;> omega
theorem mark_take {l : Bs} {m : Nat} (h0 : markLen l ≠ 0) (hm : markLen l ≤ m) : markLen (l.take m) = markLen l := by
  match l, m with
  | [], _ => exact absurd rfl h0
  | [c], 0 => omega
  | [c], m + 1 => simp
  | c :: d :: r, 0 => omega
  | c :: d :: r, 1 =>
    simp only [markLen, List.take_succ_cons, List.take_zero] at h0 hm ⊢
    by_cases h2 : two c d = true
    · rw [if_pos h2] at hm
      omega
    · rw [if_neg h2] at h0 ⊢
  | c :: d :: r, m + 2 => simp [markLen]
/-- A word is as long as it says, and longer than nothing. -/
theorem word_len {l : Bs} (h : (word l).1 = 0) : 0 < (word l).2.2.2.2 ∧ (word l).2.2.2.2 ≤ l.length := by
  match l with
  | [] => simp [word] at h
  | c :: r =>
    unfold word at h ⊢
    simp only at h ⊢
    by_cases h1 : isL c = true
    · rw [if_pos h1] at h ⊢
      by_cases h2 : 16 < ((c :: r).takeWhile isN).length
      · rw [if_pos h2] at h; cases h
      · rw [if_neg h2]
        exact ⟨tw_pos (isN_of_L h1), tw_le _⟩
    · rw [if_neg h1] at h ⊢
      by_cases h2 : c.toNat = 39
      · rw [if_pos h2] at h ⊢
        match r with
        | [] => cases h
        | d :: r =>
          simp only at h ⊢
          by_cases h3 : isL d = true
          · rw [if_pos h3] at h ⊢
            by_cases h4 : 16 < ((d :: r).takeWhile isN).length
            · rw [if_pos h4] at h; cases h
            · rw [if_neg h4]
              have := tw_le (q := isN) (d :: r)
              simp only [List.length_cons] at this ⊢
              exact ⟨Nat.succ_pos _, by omega⟩
          · rw [if_neg h3] at h; cases h
      · rw [if_neg h2] at h ⊢
        by_cases h3 : isD c = true
        · rw [if_pos h3] at h ⊢
          by_cases h4 : c.toNat = 48 ∧ 1 < ((c :: r).takeWhile isD).length
          · rw [if_pos h4] at h; cases h
          · rw [if_neg h4] at h ⊢
            by_cases h5 : 9223372036854775807 < numV ((c :: r).takeWhile isD)
            · rw [if_pos h5] at h; cases h
            · rw [if_neg h5]
              exact ⟨tw_pos h3, tw_le _⟩
        · rw [if_neg h3] at h ⊢
          by_cases h4 : markLen (c :: r) = 0
          · rw [if_pos h4] at h; cases h
          · rw [if_neg h4]
            exact ⟨Nat.pos_of_ne_zero h4, mark_le _⟩
/-- A WORD STAYS where the text is cut off behind it, or farther on. -/
theorem word_take {l : Bs} (h : (word l).1 = 0) {m : Nat} (hm : (word l).2.2.2.2 ≤ m) : word (l.take m) = word l := by
  have hpos := (word_len h).1
  match l with
  | [] => simp
  | c :: r =>
    obtain ⟨m', rfl⟩ : ∃ m', m = m' + 1 := ⟨m - 1, by omega⟩
    have ht : (c :: r).take (m' + 1) = c :: r.take m' := List.take_succ_cons
    unfold word at h hm ⊢
    rw [ht]
    simp only at h hm ⊢
    rw [← ht]
    by_cases h1 : isL c = true
    · rw [if_pos h1] at h hm ⊢
      rw [if_pos h1]
      by_cases h2 : 16 < ((c :: r).takeWhile isN).length
      · rw [if_pos h2] at h; cases h
      · rw [if_neg h2] at hm
        rw [take_tw (c :: r) (m' + 1) hm]
    · rw [if_neg h1] at h hm ⊢
      rw [if_neg h1]
      by_cases h2 : c.toNat = 39
      · rw [if_pos h2] at h hm ⊢
        rw [if_pos h2]
        match r with
        | [] => simp
        | d :: r =>
          simp only at h hm
          by_cases h3 : isL d = true
          · rw [if_pos h3] at h hm
            by_cases h4 : 16 < ((d :: r).takeWhile isN).length
            · rw [if_pos h4] at h; cases h
            · rw [if_neg h4] at hm
              have hp := tw_pos (q := isN) (l := r) (isN_of_L h3)
              simp only at hm
              obtain ⟨m2, rfl⟩ : ∃ m2, m' = m2 + 1 := ⟨m' - 1, by omega⟩
              have e := take_tw (q := isN) (d :: r) (m2 + 1) (by omega)
              rw [List.take_succ_cons] at e ⊢
              simp only [e]
          · rw [if_neg h3] at h; cases h
      · rw [if_neg h2] at h hm ⊢
        rw [if_neg h2]
        by_cases h3 : isD c = true
        · rw [if_pos h3] at h hm ⊢
          rw [if_pos h3]
          by_cases h4 : c.toNat = 48 ∧ 1 < ((c :: r).takeWhile isD).length
          · rw [if_pos h4] at h; cases h
          · rw [if_neg h4] at h hm
            by_cases h5 : 9223372036854775807 < numV ((c :: r).takeWhile isD)
            · rw [if_pos h5] at h; cases h
            · rw [if_neg h5] at hm
              rw [take_tw (c :: r) (m' + 1) hm]
        · rw [if_neg h3] at h hm ⊢
          rw [if_neg h3]
          by_cases h4 : markLen (c :: r) = 0
          · rw [if_pos h4] at h; cases h
          · rw [if_neg h4] at hm
            rw [mark_take h4 hm, List.take_take, Nat.min_eq_left hm]

/-! Words written anew. -/
/-- Nothing, or what stands between words. -/
def Sep (r : Bs) : Prop := r = [] ∨ ∃ c r', r = c :: r' ∧ (isB c = true ∨ c.toNat = 35)
theorem sep_n {c : UInt8} (h : isB c = true ∨ c.toNat = 35) : isN c = false ∧ isD c = false ∧ ∀ b, two b c = false := by
  have hb : c.toNat = 32 ∨ c.toNat = 9 ∨ c.toNat = 10 ∨ c.toNat = 35 := by
    rcases h with h | h
    · unfold isB at h
      have := of_decide_eq_true h
      omega
    · omega
  refine ⟨?_, ?_, fun b => ?_⟩
  · unfold isN isL isD
    rw [decide_eq_false (by omega), decide_eq_false (by omega)]
    rfl
  · unfold isD
    exact decide_eq_false (by omega)
  · unfold two
    exact decide_eq_false (by omega)
theorem tw_append {q : UInt8 → Bool} : ∀ (a r : Bs), (∀ c ∈ a, q c = true) → (r = [] ∨ ∃ c r', r = c :: r' ∧ q c = false) → (a ++ r).takeWhile q = a
  | [], r, _, h => by
    rcases h with rfl | ⟨c, r', rfl, h⟩
    · rfl
    · rw [List.nil_append, List.takeWhile_cons_of_neg (by rw [h]; decide)]
  | c :: a, r, ha, h => by
    rw [List.cons_append, List.takeWhile_cons_of_pos (ha c (List.mem_cons_self ..)), tw_append a r (fun d hd => ha d (List.mem_cons_of_mem _ hd)) h]
theorem tw_all {q : UInt8 → Bool} (l : Bs) : ∀ c ∈ l.takeWhile q, q c = true := by
  induction l with
  | nil => intro c h; cases h
  | cons a l ih =>
    intro c h
    by_cases ha : q a = true
    · rw [List.takeWhile_cons_of_pos ha] at h
      rcases List.mem_cons.1 h with rfl | h
      · exact ha
      · exact ih c h
    · rw [List.takeWhile_cons_of_neg ha] at h
      cases h
theorem tw_take {q : UInt8 → Bool} (l : Bs) : l.take (l.takeWhile q).length = l.takeWhile q := by
  induction l with
  | nil => rfl
  | cons a l ih =>
    by_cases ha : q a = true
    · rw [List.takeWhile_cons_of_pos ha, List.length_cons, List.take_succ_cons, ih]
    · rw [List.takeWhile_cons_of_neg ha]
      rfl
/-- A word's text stands as the word where something stands behind it that is none. -/
theorem word_again {l r : Bs} (h : (word l).1 = 0) (hr : Sep r) : word (l.take (word l).2.2.2.2 ++ r) = word l := by
  have hN : r = [] ∨ ∃ c r', r = c :: r' ∧ isN c = false := hr.imp id fun ⟨c, r', e, k⟩ => ⟨c, r', e, (sep_n k).1⟩
  have hD : r = [] ∨ ∃ c r', r = c :: r' ∧ isD c = false := hr.imp id fun ⟨c, r', e, k⟩ => ⟨c, r', e, (sep_n k).2.1⟩
  match l with
  | [] => simp [word] at h
  | c :: l =>
    by_cases h1 : isL c = true
    · have hw : word (c :: l) = if 16 < ((c :: l).takeWhile isN).length then (9, 0, [], 0, 0) else (0, 0, (c :: l).takeWhile isN, 0, ((c :: l).takeWhile isN).length) := by
        show (if isL c = true then _ else _) = _
        rw [if_pos h1]
      by_cases h2 : 16 < ((c :: l).takeWhile isN).length
      · rw [hw, if_pos h2] at h; cases h
      · rw [if_neg h2] at hw
        rw [hw]
        simp only
        rw [tw_take]
        have e := tw_append ((c :: l).takeWhile isN) r (tw_all _) hN
        rw [List.takeWhile_cons_of_pos (isN_of_L h1)] at e h2 ⊢
        show (if isL c = true then _ else _) = _
        rw [if_pos h1]
        rw [e, if_neg h2]
    · by_cases h2 : c.toNat = 39
      · match l with
        | [] =>
          exfalso
          have : word [c] = (5, 0, [], 0, 0) := by
            show (if isL c = true then _ else if c.toNat = 39 then _ else _) = _
            rw [if_neg h1, if_pos h2]
          rw [this] at h; cases h
        | d :: l =>
          have hw : word (c :: d :: l) = if isL d = true then (if 16 < ((d :: l).takeWhile isN).length then (9, 0, [], 0, 0) else (0, 2, (d :: l).takeWhile isN, 0, ((d :: l).takeWhile isN).length + 1)) else (5, 0, [], 0, 0) := by
            show (if isL c = true then _ else if c.toNat = 39 then _ else _) = _
            rw [if_neg h1, if_pos h2]
          by_cases h3 : isL d = true
          · rw [if_pos h3] at hw
            by_cases h4 : 16 < ((d :: l).takeWhile isN).length
            · rw [hw, if_pos h4] at h; cases h
            · rw [if_neg h4] at hw
              rw [hw]
              simp only
              rw [List.take_succ_cons, tw_take]
              have e := tw_append ((d :: l).takeWhile isN) r (tw_all _) hN
              rw [List.takeWhile_cons_of_pos (isN_of_L h3)] at e h4 ⊢
              show (if isL c = true then _ else if c.toNat = 39 then _ else _) = _
              rw [if_neg h1, if_pos h2]
              show (if isL d = true then _ else _) = _
              rw [if_pos h3]
              simp only [List.append_eq]
              rw [e, if_neg h4]
          · rw [hw, if_neg h3] at h; cases h
      · by_cases h3 : isD c = true
        · have hw : word (c :: l) = if c.toNat = 48 ∧ 1 < ((c :: l).takeWhile isD).length then (6, 0, [], 0, 0) else if 9223372036854775807 < numV ((c :: l).takeWhile isD) then (2, 0, [], 0, 0) else (0, 1, [], numV ((c :: l).takeWhile isD), ((c :: l).takeWhile isD).length) := by
            show (if isL c = true then _ else if c.toNat = 39 then _ else if isD c = true then _ else _) = _
            rw [if_neg h1, if_neg h2, if_pos h3]
          by_cases h4 : c.toNat = 48 ∧ 1 < ((c :: l).takeWhile isD).length
          · rw [hw, if_pos h4] at h; cases h
          · rw [if_neg h4] at hw
            by_cases h5 : 9223372036854775807 < numV ((c :: l).takeWhile isD)
            · rw [hw, if_pos h5] at h; cases h
            · rw [if_neg h5] at hw
              rw [hw]
              simp only
              rw [tw_take]
              have e := tw_append ((c :: l).takeWhile isD) r (tw_all _) hD
              rw [List.takeWhile_cons_of_pos h3] at e h4 h5 ⊢
              show (if isL c = true then _ else if c.toNat = 39 then _ else if isD c = true then _ else _) = _
              rw [if_neg h1, if_neg h2, if_pos h3]
              rw [e, if_neg h4, if_neg h5]
        · have hw : word (c :: l) = if markLen (c :: l) = 0 then (5, 0, [], 0, 0) else (0, 3, (c :: l).take (markLen (c :: l)), 0, markLen (c :: l)) := by
            show (if isL c = true then _ else if c.toNat = 39 then _ else if isD c = true then _ else _) = _
            rw [if_neg h1, if_neg h2, if_neg h3]
          by_cases h4 : markLen (c :: l) = 0
          · rw [hw, if_pos h4] at h; cases h
          · rw [if_neg h4] at hw
            rw [hw]
            simp only
            have hm : markLen ((c :: l).take (markLen (c :: l)) ++ r) = markLen (c :: l) ∧ ((c :: l).take (markLen (c :: l)) ++ r).take (markLen (c :: l)) = (c :: l).take (markLen (c :: l)) ∧ ∃ t, (c :: l).take (markLen (c :: l)) ++ r = c :: t := by
              have hone : ∀ t, Sep t → ones.contains c = true → markLen (c :: t) = 1 := by
                rintro t (rfl | ⟨x, t', rfl, k⟩) ho
                · show (if _ then _ else _) = _
                  rw [if_pos ho]
                · show (if two c x = true then _ else if _ then _ else _) = _
                  rw [(sep_n k).2.2 c, if_neg (by decide), if_pos ho]
              match l with
              | [] =>
                by_cases ho : ones.contains c = true
                · have e : markLen [c] = 1 := by show (if _ then _ else _) = _; rw [if_pos ho]
                  rw [e]
                  exact ⟨hone r hr ho, by simp, r, rfl⟩
                · exfalso
                  refine h4 ?_
                  show (if _ then _ else _) = _
                  rw [if_neg ho]
              | d :: l =>
                by_cases h6 : two c d = true
                · have e : ∀ t, markLen (c :: d :: t) = 2 := fun t => by show (if two c d = true then _ else _) = _; rw [if_pos h6]
                  rw [e l]
                  exact ⟨e r, by simp, d :: r, rfl⟩
                · by_cases ho : ones.contains c = true
                  · have e : markLen (c :: d :: l) = 1 := by show (if two c d = true then _ else if _ then _ else _) = _; rw [if_neg h6, if_pos ho]
                    rw [e]
                    exact ⟨hone r hr ho, by simp, r, rfl⟩
                  · exfalso
                    refine h4 ?_
                    show (if two c d = true then _ else if _ then _ else _) = _
                    rw [if_neg h6, if_neg ho]
            obtain ⟨m1, m2, t, m3⟩ := hm
            rw [m3] at m1 m2 ⊢
            show (if isL c = true then _ else if c.toNat = 39 then _ else if isD c = true then _ else _) = _
            rw [if_neg h1, if_neg h2, if_neg h3, m1, if_neg h4, m2]
end Go.Proofs.YtikpbfghdiomgaaDoor.Tk
