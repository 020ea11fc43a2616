/-
  Mathematics of layer 8: what is handed out of a text, word by word; the marks as a table. No condition but those that each theorem states.
-/
import Derived.Test.YtikpbfghdiomgaaDoorT8H
namespace Go.Proofs.YtikpbfghdiomgaaDoor.Tk
open Go.Proofs.YtikpbfghdiomgaaDoor

/-- What is handed out: the words, each with 0; where there is an error, that place with it. -/
def outsOf (x : List W × Option (Nat × Int)) : List (W × Int) :=
  match x with
  | (ws, none) => ws.map fun u => (u, 0)
  | (ws, some (p, e)) => (ws.map fun u => (u, 0)) ++ [(⟨0, [], 0, p⟩, e)]
def outs (l : Bs) : List (W × Int) := if 16384 < l.length then [(⟨0, [], 0, 0⟩, 9)] else outsOf (lex (l.length + 1) 0 l)
theorem outsOf_app (us : List W) (x : List W × Option (Nat × Int)) : outsOf (us ++ x.1, x.2) = (us.map fun u => (u, 0)) ++ outsOf x := by
  obtain ⟨ws, o⟩ := x
  cases o with
  | none => simp [outsOf]
  | some q => obtain ⟨p, e⟩ := q; simp [outsOf]
theorem outs_go {s : ByteArray} {us : List W} {p : Nat} (hs : s.size ≤ 16384) (h : Go8 s us p) {f : Nat} (hf : ((bs s).drop p).length < f) : outs (bs s) = (us.map fun u => (u, 0)) ++ outsOf (lex f p ((bs s).drop p)) := by
  unfold outs
  rw [if_neg (by rw [bs_len]; omega), h f hf]
  exact outsOf_app _ _
/-- What is handed out at the text's end. -/
theorem outs_end {s : ByteArray} {us : List W} {p : Nat} (hs : s.size ≤ 16384) (h : Go8 s us p) (hp : s.size ≤ p) : outs (bs s) = (us.map fun u => (u, 0)) ++ [(⟨4, [], 0, p⟩, 0)] := by
  have hd := bs_end s hp
  rw [outs_go hs h (f := 1) (by rw [hd]; decide), hd, lex_nil]
  rfl
/-- What is handed out where no word stands. -/
theorem outs_err {s : ByteArray} {us : List W} {p : Nat} (hs : s.size ≤ 16384) (h : Go8 s us p) (hp : p < s.size) (hb : isB s[p] = false) (h35 : s[p].toNat ≠ 35) (hw : (word ((bs s).drop p)).1 ≠ 0) :
    outs (bs s) = (us.map fun u => (u, 0)) ++ [(⟨0, [], 0, p⟩, (word ((bs s).drop p)).1)] := by
  have hd := bs_drop s hp
  have hlen : ((bs s).drop p).length ≤ (bs s).length := by rw [List.length_drop]; omega
  rw [outs_go hs h (f := (bs s).length + 1) (by omega)]
  rw [hd] at hw ⊢
  rw [lex_cons, if_neg (by rw [hb]; decide), if_neg h35, if_neg hw]
  rfl
/-- A word is handed out: what was handed out so far is the beginning, and more follows. -/
theorem outs_word {s : ByteArray} {us : List W} {p : Nat} (hs : s.size ≤ 16384) (h : Go8 s us p) (hp : p < s.size) (hb : isB s[p] = false) (h35 : s[p].toNat ≠ 35) (hw : (word ((bs s).drop p)).1 = 0) :
    ∃ r, outs (bs s) = (us.map fun u => (u, 0)) ++ (⟨(word ((bs s).drop p)).2.1, (word ((bs s).drop p)).2.2.1, (word ((bs s).drop p)).2.2.2.1, p⟩, 0) :: r := by
  have hd := bs_drop s hp
  have hlen : ((bs s).drop p).length ≤ (bs s).length := by rw [List.length_drop]; omega
  rw [outs_go hs h (f := (bs s).length + 1) (by omega)]
  rw [hd] at hw ⊢
  rw [lex_cons, if_neg (by rw [hb]; decide), if_neg h35, if_pos hw]
  generalize lex (bs s).length (p + (word (s[p] :: (bs s).drop (p + 1))).2.2.2.2) _ = x
  obtain ⟨ws, o⟩ := x
  cases o with
  | none => exact ⟨_, rfl⟩
  | some q => obtain ⟨p', e⟩ := q; exact ⟨_, rfl⟩
theorem outs_long {s : ByteArray} (hs : 16384 < s.size) : outs (bs s) = [(⟨0, [], 0, 0⟩, 9)] := by
  unfold outs
  rw [if_pos (by rw [bs_len]; exact hs)]
/-- What Scan answers, of what is handed out. -/
theorem scan_outs (l : Bs) : (∃ ws : List W, outs l = (ws.map fun u => (u, 0)) ∧ Tk.scan l = (ws, 0, 0)) ∨ (∃ (ws : List W) (p : Nat) (e : Int), e ≠ 0 ∧ outs l = (ws.map fun u => (u, 0)) ++ [(⟨0, [], 0, p⟩, e)] ∧ Tk.scan l = ([], p, e)) := by
  unfold outs Tk.scan
  by_cases h : 16384 < l.length
  · rw [if_pos h, if_pos h]
    exact .inr ⟨[], 0, 9, by decide, rfl, rfl⟩
  · rw [if_neg h, if_neg h]
    have he : ∀ (ws : List W) (q : Nat) (e : Int), lex (l.length + 1) 0 l = (ws, some (q, e)) → e ≠ 0 := fun ws q e k => (lex_err (l.length + 1) 0 l ws q e (Nat.lt_succ_self _) k).1
    generalize lex (l.length + 1) 0 l = x at he ⊢
    obtain ⟨ws, o⟩ := x
    cases o with
    | none => exact .inl ⟨ws, rfl, rfl⟩
    | some q => obtain ⟨p, e⟩ := q; exact .inr ⟨ws, p, e, he ws p e rfl, rfl, rfl⟩

/-! The marks as a table. -/
def marks : List Bs := [[45, 62], [60, 61], [123], [125], [40], [41], [44], [59], [58], [46], [61], [60], [43], [45], [42], [47], [37]]
/-- Whether a mark stands at the text's beginning. -/
def pre (m l : Bs) : Bool := decide (l.take m.length = m)
/-- The first of the table that stands at the text's beginning. -/
def firstM (l : Bs) : List Bs → Option Bs
  | [] => none
  | m :: ms => if pre m l = true then some m else firstM l ms
theorem firstM_ones (c : UInt8) (r : Bs) : ∀ os : Bs, firstM (c :: r) (os.map fun o => [o]) = if os.contains c = true then some [c] else none
  | [] => rfl
  | o :: os => by
    rw [List.map_cons, firstM, firstM_ones c r os]
    have hp : pre [o] (c :: r) = decide (c = o) := by unfold pre; simp
    rw [hp, List.contains_cons]
    by_cases h : c = o
    · subst h; simp
    · simp [h]
theorem firstM_marks (l : Bs) : firstM l marks = if markLen l = 0 then none else some (l.take (markLen l)) := by
  have hm : marks = [45, 62] :: [60, 61] :: ones.map fun o => [o] := rfl
  rw [hm, firstM, firstM]
  match l with
  | [] => rfl
  | [c] =>
    rw [if_neg (by simp [pre]), if_neg (by simp [pre]), firstM_ones]
    have hk : markLen [c] = if ones.contains c = true then 1 else 0 := rfl
    rw [hk]
    by_cases h : ones.contains c = true
    · rw [if_pos h, if_pos h]; rfl
    · rw [if_neg h, if_neg h]; rfl
  | c :: d :: r =>
    rw [firstM_ones]
    have h1 : pre [45, 62] (c :: d :: r) = decide (c = 45 ∧ d = 62) := by unfold pre; simp
    have h2 : pre [60, 61] (c :: d :: r) = decide (c = 60 ∧ d = 61) := by unfold pre; simp
    have h3 : two c d = (decide (c = 45 ∧ d = 62) || decide (c = 60 ∧ d = 61)) := by
      unfold two
      rw [Bool.eq_iff_iff]
      simp only [decide_eq_true_eq, Bool.or_eq_true, ← UInt8.toNat_inj]
      exact Iff.rfl
    have hk : markLen (c :: d :: r) = if two c d = true then 2 else if ones.contains c = true then 1 else 0 := rfl
    rw [hk, h1, h2, h3]
    by_cases k1 : c = 45 ∧ d = 62
    · obtain ⟨rfl, rfl⟩ := k1
      simp
    · by_cases k2 : c = 60 ∧ d = 61
      · obtain ⟨rfl, rfl⟩ := k2
        simp
      · rw [decide_eq_false k1, decide_eq_false k2]
        simp only [Bool.or_self, Bool.false_eq_true, if_false]
        by_cases h : ones.contains c = true
        · rw [if_pos h, if_pos h]; rfl
        · rw [if_neg h, if_neg h]; rfl
end Go.Proofs.YtikpbfghdiomgaaDoor.Tk
