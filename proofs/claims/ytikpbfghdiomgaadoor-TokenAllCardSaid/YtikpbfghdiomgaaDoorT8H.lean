/-
  What the given package gavotteref08's Scan leaves, and the words so far, over this seat's translation. Conditions: those that each theorem states.
-/
import Derived.Test.YtikpbfghdiomgaaDoorT8A
import Derived.OwnWalk
import Derived.Maps.OwnIn
import Derived.Maps.AppendAt
import Derived.Laws.DeepStrings4
import Derived.Laws.Strings2
namespace Go.Proofs.YtikpbfghdiomgaaDoor
open Go.RowKit Go.Lib Tk

theorem infoTk : (Tryd.prog.info? 41).map (fun i => (i.zero, i.size, i.bytes)) = some (some (.agg #[.int .i64 0, .string ⟨#[]⟩, .int .i64 0, .int .i64 0]), 4, 40) := by kernel_rfl
/-- A word's cells. -/
def cW (u : Tk.W) : List Value := [.int .i64 (u.kind : Int), .string ⟨u.s.toArray⟩, .int .i64 (u.n : Int), .int .i64 (u.p : Int)]
abbrev RowW (W' : World) (B : Nat) (v : Value) (us : List Tk.W) : Prop := W'.ownsRow B 41 4 v us.length (us.flatMap cW)
theorem roww_snoc {W' : World} {B : Nat} {v : Value} {us : List Tk.W} {u : Tk.W} {cs : List Value} (hc : cs = cW u) (h : W'.ownsRow B 41 4 v (us.length + 1) (us.flatMap cW ++ cs)) : RowW W' B v (us ++ [u]) := by
  unfold RowW
  rw [List.flatMap_append, List.length_append, ← show cs = [u].flatMap cW from by rw [hc]; simp]
  exact h
/-- So far the words stand as the text has them. -/
def Go8 (s : ByteArray) (us : List Tk.W) (p : Nat) : Prop := ∀ f, ((bs s).drop p).length < f → lex ((bs s).length + 1) 0 (bs s) = (us ++ (lex f p ((bs s).drop p)).1, (lex f p ((bs s).drop p)).2)
theorem Go8.start (s : ByteArray) : Go8 s [] 0 := fun f hf => by
  rw [List.drop_zero] at hf ⊢
  rw [lex_fuel _ f _ _ (Nat.lt_succ_self _) hf]
  rfl
theorem Go8.blank {s : ByteArray} {us : List Tk.W} {p : Nat} (h : Go8 s us p) (hp : p < s.size) (hb : isB s[p] = true) : Go8 s us (p + 1) := fun f hf => by
  have hd := bs_drop s hp
  rw [h (f + 1) (by rw [hd, List.length_cons]; omega), hd, lex_cons, if_pos hb]
theorem Go8.rem {s : ByteArray} {us : List Tk.W} {p q : Nat} (h : Go8 s us p) (hp : p < s.size) (h35 : s[p].toNat = 35) (hq : (((bs s).drop (p + 1)).takeWhile isE).length = q - (p + 1)) (hpq : p + 1 ≤ q) : Go8 s us q := fun f hf => by
  have hd := bs_drop s hp
  have hb : isB s[p] = false := isB_no (by omega)
  have hdd : ((bs s).drop (p + 1)).drop (q - (p + 1)) = (bs s).drop q := by rw [List.drop_drop]; congr 1; omega
  have hq2 : p + 1 + (q - (p + 1)) = q := by omega
  have hlen : ((bs s).drop p).length ≤ (bs s).length := by rw [List.length_drop]; omega
  rw [h ((bs s).length + f + 1) (by omega), hd, lex_cons, if_neg (by rw [hb]; decide), if_pos h35, hq, hq2, hdd, lex_fuel ((bs s).length + f) f q ((bs s).drop q) (by omega) hf]
theorem Go8.word {s : ByteArray} {us : List Tk.W} {p k : Nat} {a : Nat} {b : Bs} {c : Nat} (h : Go8 s us p) (hp : p < s.size) (hw : word ((bs s).drop p) = (0, a, b, c, k)) : Go8 s (us ++ [⟨a, b, c, p⟩]) (p + k) := fun f hf => by
  have hd := bs_drop s hp
  have hdd : ((bs s).drop p).drop k = (bs s).drop (p + k) := List.drop_drop ..
  have hlen : ((bs s).drop p).length ≤ (bs s).length := by rw [List.length_drop]; omega
  rw [hd] at hw
  obtain ⟨w1, w2⟩ := word_first (c := s[p]) (l := (bs s).drop (p + 1)) (by rw [hw])
  rw [h ((bs s).length + f + 1) (by omega), hd, lex_cons, if_neg (by rw [w1]; decide), if_neg w2, if_pos (by rw [hw]), hw]
  simp only
  rw [← hd, hdd, lex_fuel ((bs s).length + f) f (p + k) ((bs s).drop (p + k)) (by omega) hf]
  simp
theorem Go8.err {s : ByteArray} {us : List Tk.W} {p : Nat} {e : Int} {x : Nat × Bs × Nat × Nat} (h : Go8 s us p) (hp : p < s.size) (hs : s.size ≤ 16384) (hb : isB s[p] = false) (h35 : s[p].toNat ≠ 35) (hw : Tk.word ((bs s).drop p) = (e, x)) (he : e ≠ 0) : Tk.scan (bs s) = ([], p, e) := by
  have hd := bs_drop s hp
  have hlen : ((bs s).drop p).length ≤ (bs s).length := by rw [List.length_drop]; omega
  have h1 := h ((bs s).length + 1) (by omega)
  rw [hd] at hw
  rw [hd, lex_cons, if_neg (by rw [hb]; decide), if_neg h35, if_neg (by rw [hw]; exact he), hw] at h1
  unfold Tk.scan
  rw [if_neg (by rw [bs_len]; omega), h1]
theorem Go8.fin {s : ByteArray} {us : List Tk.W} (h : Go8 s us s.size) (hs : s.size ≤ 16384) : Tk.scan (bs s) = (us ++ [⟨4, [], 0, s.size⟩], 0, 0) := by
  have hd := bs_end s (Nat.le_refl s.size)
  have h1 := h 1 (by rw [hd]; decide)
  rw [hd, lex_nil] at h1
  unfold Tk.scan
  rw [if_neg (by rw [bs_len]; omega), h1]
theorem scan_long {s : ByteArray} (hs : 16384 < s.size) : Tk.scan (bs s) = ([], 0, 9) := by
  unfold Tk.scan
  rw [if_pos (by rw [bs_len]; exact hs)]
/-- All from p on, up to k. -/
def Run (q : UInt8 → Bool) (s : ByteArray) (p k : Nat) : Prop := ∀ i (hi : i < s.size), p ≤ i → i < k → q s[i] = true
theorem Run.nil (q : UInt8 → Bool) (s : ByteArray) (p : Nat) : Run q s p p := fun i _ h1 h2 => by omega
theorem Run.next {q : UInt8 → Bool} {s : ByteArray} {p k : Nat} (h : Run q s p k) (hk : k < s.size) (hq : q s[k] = true) : Run q s p (k + 1) := fun i hi h1 h2 => by
  by_cases e : i = k
  · subst e; exact hq
  · exact h i hi h1 (by omega)
theorem Run.tw {q : UInt8 → Bool} {s : ByteArray} : ∀ (m p k : Nat), k - p = m → p ≤ k → k ≤ s.size → Run q s p k → (∀ hk : k < s.size, q s[k] = false) → ((bs s).drop p).takeWhile q = ((bs s).drop p).take (k - p)
  | 0, p, k, hm, h1, h2, _, he => by
    obtain rfl : p = k := by omega
    rw [Nat.sub_self, List.take_zero]
    by_cases hk : p < s.size
    · rw [bs_drop s hk, List.takeWhile_cons_of_neg (by rw [he hk]; decide)]
    · rw [bs_end s (by omega)]
      rfl
  | m + 1, p, k, hm, h1, h2, hr, he => by
    have hp : p < s.size := by omega
    have ih := Run.tw m (p + 1) k (by omega) (by omega) h2 (fun i hi a b => hr i hi (by omega) b) he
    rw [bs_drop s hp, List.takeWhile_cons_of_pos (hr p hp (Nat.le_refl _) (by omega)), ih, show k - p = (k - (p + 1)) + 1 from by omega, List.take_succ_cons]
theorem Run.len {q : UInt8 → Bool} {s : ByteArray} {p k : Nat} (h1 : p ≤ k) (h2 : k ≤ s.size) (hr : Run q s p k) (he : ∀ hk : k < s.size, q s[k] = false) : (((bs s).drop p).takeWhile q).length = k - p := by
  rw [Run.tw _ p k rfl h1 h2 hr he, List.length_take, List.length_drop, bs_len]
  omega
/-- A part of a text. -/
theorem ext8 (s : ByteArray) (a b : Nat) : s.extract a b = ⟨(((bs s).drop a).take (b - a)).toArray⟩ := by
  have h : (s.extract a b).data.toList = ((bs s).drop a).take (b - a) := by
    unfold bs
    rw [ByteArray.data_extract, Array.toList_extract, List.extract_eq_take_drop]
  have h2 : (s.extract a b).data = (((bs s).drop a).take (b - a)).toArray := by rw [← h]
  cases hx : s.extract a b
  rw [hx] at h2
  simp only at h2
  rw [h2]
theorem word_L {c : UInt8} {l : Bs} (h1 : isL c = true) : Tk.word (c :: l) = if 16 < ((c :: l).takeWhile isN).length then (9, 0, [], 0, 0) else (0, 0, (c :: l).takeWhile isN, 0, ((c :: l).takeWhile isN).length) := by
  show (if isL c = true then _ else _) = _
  rw [if_pos h1]
theorem notL_39 {c : UInt8} (h : c.toNat = 39) : isL c = false := by unfold isL; exact decide_eq_false (by omega)
theorem word_Q0 {c : UInt8} (h2 : c.toNat = 39) : Tk.word [c] = (5, 0, [], 0, 0) := by
  show (if isL c = true then _ else if c.toNat = 39 then _ else _) = _
  rw [if_neg (by rw [notL_39 h2]; decide), if_pos h2]
theorem word_Q {c d : UInt8} {l : Bs} (h2 : c.toNat = 39) : Tk.word (c :: d :: l) = if isL d = true then (if 16 < ((d :: l).takeWhile isN).length then (9, 0, [], 0, 0) else (0, 2, (d :: l).takeWhile isN, 0, ((d :: l).takeWhile isN).length + 1)) else (5, 0, [], 0, 0) := by
  show (if isL c = true then _ else if c.toNat = 39 then _ else _) = _
  rw [if_neg (by rw [notL_39 h2]; decide), if_pos h2]
theorem word_D {c : UInt8} {l : Bs} (h1 : isL c = false) (h2 : c.toNat ≠ 39) (h3 : isD c = true) : Tk.word (c :: l) = if c.toNat = 48 ∧ 1 < ((c :: l).takeWhile isD).length then (6, 0, [], 0, 0) else if 9223372036854775807 < numV ((c :: l).takeWhile isD) then (2, 0, [], 0, 0) else (0, 1, [], numV ((c :: l).takeWhile isD), ((c :: l).takeWhile isD).length) := by
  show (if isL c = true then _ else if c.toNat = 39 then _ else if isD c = true then _ else _) = _
  rw [if_neg (by rw [h1]; decide), if_neg h2, if_pos h3]
theorem word_M {c : UInt8} {l : Bs} (h1 : isL c = false) (h2 : c.toNat ≠ 39) (h3 : isD c = false) : Tk.word (c :: l) = if markLen (c :: l) = 0 then (5, 0, [], 0, 0) else (0, 3, (c :: l).take (markLen (c :: l)), 0, markLen (c :: l)) := by
  show (if isL c = true then _ else if c.toNat = 39 then _ else if isD c = true then _ else _) = _
  rw [if_neg (by rw [h1]; decide), if_neg h2, if_neg (by rw [h3]; decide)]
/-- Scan's loop. -/
structure ScI (w : World) (s : ByteArray) (us : List Tk.W) (p : Nat) (v : Value) (W' : World) : Prop where
  row : RowW W' w.heap.size v us
  below : Below w.heap.size w W'
  go : Go8 s us p
  cnt : us.length ≤ p
theorem bA8 {B : Nat} {a w : World} (h : Below B a w) (hB : B ≤ w.heap.size) (o : Obj) : Below B a (w.alloc o) := h.alloc hB o
theorem rowBelow8 {W W' : World} {B n sz : Nat} {e : TypeId} {v : Value} {xs : List Value} (h : W.ownsRow B e sz v n xs) (hb : Below W.heap.size W W') : W'.ownsRow B e sz v n xs := by
  refine ⟨h.1, ?_⟩
  rcases h.2 with h3 | ⟨g, cap, cur, e, hB, hg, rest⟩
  · exact .inl h3
  · exact .inr ⟨g, cap, cur, e, hB, (hb.block g (h.lt g (by rw [e]; rfl)).2).trans hg, rest⟩
theorem ScI.moved {w W' W'' : World} {s : ByteArray} {us : List Tk.W} {p : Nat} {v : Value} (h : ScI w s us p v W') (hb : Below W'.heap.size W' W'') : ScI w s us p v W'' := ⟨rowBelow8 h.row hb, belowT8 h.below hb, h.go, h.cnt⟩
/-- What Scan answers. -/
def ScA (w : World) (s : ByteArray) (e : Ending) (W' : World) : Prop := (∃ v, e = .returned (.tuple #[v, .int .i64 ((Tk.scan (bs s)).2.1 : Int), .int .i64 (Tk.scan (bs s)).2.2]) ∧ RowW W' w.heap.size v (Tk.scan (bs s)).1) ∧ Below w.heap.size w W'
theorem scA_no {w W' : World} {s : ByteArray} {p : Nat} {e : Int} (h : Tk.scan (bs s) = ([], p, e)) (hb : Below w.heap.size w W') : ScA w s (.returned (.tuple #[.slice none 0 0, .int .i64 (p : Int), .int .i64 e])) W' := by
  unfold ScA
  rw [h]
  exact ⟨⟨_, rfl, World.ownsRow_nil _ _ _ _⟩, hb⟩
theorem scA_yes {w W' : World} {s : ByteArray} {v : Value} {us : List Tk.W} (h : Tk.scan (bs s) = (us, 0, 0)) (hr : RowW W' w.heap.size v us) (hb : Below w.heap.size w W') : ScA w s (.returned (.tuple #[v, .int .i64 0, .int .i64 0])) W' := by
  unfold ScA
  rw [h]
  exact ⟨⟨_, rfl, hr⟩, hb⟩
theorem word_Dk {s : ByteArray} {p k : Nat} (hp : p < s.size) (h1 : isL s[p] = false) (h2 : s[p].toNat ≠ 39) (h3 : isD s[p] = true) (hpk : p ≤ k) (hk : k ≤ s.size) (hr : Run isD s p k) (he : ∀ hk : k < s.size, isD s[k] = false) : Tk.word ((bs s).drop p) = if s[p].toNat = 48 ∧ 1 < k - p then (6, 0, [], 0, 0) else if 9223372036854775807 < numV (((bs s).drop p).take (k - p)) then (2, 0, [], 0, 0) else (0, 1, [], numV (((bs s).drop p).take (k - p)), k - p) := by
  have ht := Run.tw _ p k rfl hpk hk hr he
  have hl := Run.len hpk hk hr he
  rw [bs_drop s hp] at ht hl ⊢
  rw [word_D h1 h2 h3, hl, ht]
theorem seg_snoc {s : ByteArray} {p k : Nat} (hpk : p ≤ k) (hk : k < s.size) : ((bs s).drop p).take (k + 1 - p) = ((bs s).drop p).take (k - p) ++ [s[k]] := by
  have h1 : ((bs s).drop p)[k - p]? = some s[k] := by
    rw [List.getElem?_drop, show p + (k - p) = k from by omega]
    exact bs_at s hk
  rw [show k + 1 - p = (k - p) + 1 from by omega, List.take_add_one, h1]
  rfl
theorem numV_snoc (l : Bs) (c : UInt8) : numV (l ++ [c]) = numV l * 10 + (c.toNat - 48) := by
  unfold numV
  rw [List.foldl_append]
  rfl
/-- The number so far; o: it is too great. -/
def NumI (s : ByteArray) (p k : Nat) (n : Int) (o : Bool) : Prop := Run isD s p k ∧ 0 ≤ n ∧ n ≤ 9223372036854775807 ∧ (o = true → 9223372036854775807 < numV (((bs s).drop p).take (k - p))) ∧ (o = false → ((numV (((bs s).drop p).take (k - p)) : Nat) : Int) = n)
theorem NumI.start (s : ByteArray) (p : Nat) : NumI s p p 0 false := ⟨Run.nil _ _ _, by decide, by decide, fun h => absurd h (by decide), fun _ => by rw [Nat.sub_self]; rfl⟩
theorem NumI.over {s : ByteArray} {p k : Nat} {n : Int} {o : Bool} (h : NumI s p k n o) (hpk : p ≤ k) (hk : k < s.size) (hd : isD s[k] = true) (hc : 922337203685477580 < n ∨ (n = 922337203685477580 ∧ 55 < s[k].toNat)) : NumI s p (k + 1) n true := by
  obtain ⟨h1, h2, h3, h4, h5⟩ := h
  refine ⟨h1.next hk hd, h2, h3, fun _ => ?_, fun h => absurd h (by decide)⟩
  rw [seg_snoc hpk hk, numV_snoc]
  cases o with
  | true => have := h4 rfl; omega
  | false => have := h5 rfl; omega
theorem NumI.more {s : ByteArray} {p k : Nat} {n : Int} {o : Bool} (h : NumI s p k n o) (hpk : p ≤ k) (hk : k < s.size) (hd : isD s[k] = true) (hc : ¬ (922337203685477580 < n ∨ (n = 922337203685477580 ∧ 55 < s[k].toNat))) : NumI s p (k + 1) (n * 10 + ((s[k].toNat : Int) - 48)) o := by
  obtain ⟨h1, h2, h3, h4, h5⟩ := h
  have hdd : 48 ≤ s[k].toNat ∧ s[k].toNat ≤ 57 := of_decide_eq_true (show decide (48 ≤ s[k].toNat ∧ s[k].toNat ≤ 57) = true from hd)
  refine ⟨h1.next hk hd, by omega, by omega, fun ho => ?_, fun ho => ?_⟩
  · have := h4 ho
    rw [seg_snoc hpk hk, numV_snoc]
    omega
  · have := h5 ho
    rw [seg_snoc hpk hk, numV_snoc]
    omega
theorem word_Nk {s : ByteArray} {p k : Nat} (hp : p < s.size) (h1 : isL s[p] = true) (hpk : p ≤ k) (hk : k ≤ s.size) (hr : Run isN s p k) (he : ∀ hk : k < s.size, isN s[k] = false) : Tk.word ((bs s).drop p) = if 16 < k - p then (9, 0, [], 0, 0) else (0, 0, ((bs s).drop p).take (k - p), 0, k - p) := by
  have ht := Run.tw _ p k rfl hpk hk hr he
  have hl := Run.len hpk hk hr he
  rw [bs_drop s hp] at ht hl ⊢
  rw [word_L h1, hl, ht]
theorem word_Sk {s : ByteArray} {p k : Nat} (hp : p + 1 < s.size) (h1 : s[p].toNat = 39) (h2 : isL s[p + 1] = true) (hpk : p + 1 ≤ k) (hk : k ≤ s.size) (hr : Run isN s (p + 1) k) (he : ∀ hk : k < s.size, isN s[k] = false) : Tk.word ((bs s).drop p) = if 16 < k - (p + 1) then (9, 0, [], 0, 0) else (0, 2, ((bs s).drop (p + 1)).take (k - (p + 1)), 0, k - p) := by
  have ht := Run.tw _ (p + 1) k rfl hpk hk hr he
  have hl := Run.len hpk hk hr he
  rw [bs_drop s (show p < s.size by omega)]
  rw [bs_drop s hp] at ht hl ⊢
  rw [word_Q h1, if_pos h2, hl, ht, show k - (p + 1) + 1 = k - p from by omega]
theorem word_S0 {s : ByteArray} {p : Nat} (hp : p < s.size) (h1 : s[p].toNat = 39) (h2 : ∀ hk : p + 1 < s.size, isL s[p + 1] = false) : Tk.word ((bs s).drop p) = (5, 0, [], 0, 0) := by
  rw [bs_drop s hp]
  by_cases hk : p + 1 < s.size
  · rw [bs_drop s hk, word_Q h1, if_neg (by rw [h2 hk]; decide)]
  · rw [bs_end s (by omega), word_Q0 h1]
theorem isN_L {c : UInt8} (h : isL c = true) : isN c = true := by unfold isN; rw [h]; rfl
theorem isN_D {c : UInt8} (h : isD c = true) : isN c = true := by unfold isN; rw [h]; exact Bool.or_true _
theorem isN_no {c : UInt8} (h : isL c = false) (h2 : isD c = false) : isN c = false := by unfold isN; rw [h, h2]; rfl
end Go.Proofs.YtikpbfghdiomgaaDoor
