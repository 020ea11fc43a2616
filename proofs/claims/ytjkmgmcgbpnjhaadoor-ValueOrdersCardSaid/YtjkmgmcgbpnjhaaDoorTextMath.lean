/-
  Plain mathematics of the texts of values: two right values are alike just if their texts are. No condition but those that each theorem states.
-/
import Derived.Test.YtjkmgmcgbpnjhaaDoorOrdMath
import Derived.Test.YtjkmgmcgbpnjhaaDoorTextV
namespace Go.Proofs.YtjkmgmcgbpnjhaaDoor
open Go.RowKit Go.ChangeShapes Go.WideShapes Go.ChangeAt Go.Deep

/-! ### Numerals -/
def dval (l : List UInt8) : Nat := l.foldl (fun a c => a * 10 + (c.toNat - 48)) 0
theorem dval_snoc (l : List UInt8) (c : UInt8) : dval (l ++ [c]) = dval l * 10 + (c.toNat - 48) := by unfold dval; rw [List.foldl_append]; rfl
theorem digit_nat (d : Nat) (h : d < 10) : (UInt8.ofNat (48 + d)).toNat = 48 + d := by
  rw [UInt8.toNat_ofNat']
  exact Nat.mod_eq_of_lt (by omega)
theorem dec_val (n : Nat) : dval (Lib.decDigits n) = n := by
  induction n using Nat.strongRecOn with
  | _ n ih =>
    rw [Lib.decDigits]
    by_cases h : n < 10
    · rw [dif_pos h]
      show 0 * 10 + ((UInt8.ofNat (48 + n)).toNat - 48) = n
      rw [digit_nat n h]
      omega
    · rw [dif_neg h, dval_snoc, ih (n / 10) (by omega), digit_nat _ (by omega)]
      omega
theorem dec_inj {a b : Nat} (h : Lib.decDigits a = Lib.decDigits b) : a = b := by rw [← dec_val a, h, dec_val]
theorem dec_chars (n : Nat) : ∀ c ∈ Lib.decDigits n, 48 ≤ c.toNat ∧ c.toNat ≤ 57 := by
  induction n using Nat.strongRecOn with
  | _ n ih =>
    rw [Lib.decDigits]
    by_cases h : n < 10
    · rw [dif_pos h]
      intro c hc
      rw [List.mem_singleton] at hc
      subst hc
      rw [digit_nat n h]
      omega
    · rw [dif_neg h]
      intro c hc
      rw [List.mem_append, List.mem_singleton] at hc
      rcases hc with hc | hc
      · exact ih (n / 10) (by omega) c hc
      · subst hc
        rw [digit_nat _ (by omega)]
        omega
theorem dec_ne (n : Nat) : Lib.decDigits n ≠ [] := by
  rw [Lib.decDigits]
  by_cases h : n < 10
  · rw [dif_pos h]; simp
  · rw [dif_neg h]; simp
theorem itoa_head (n : Int) : ∃ c l, Lib.itoa n = c :: l ∧ (c.toNat = 45 ∨ (48 ≤ c.toNat ∧ c.toNat ≤ 57)) ∧ ∀ d ∈ l, 48 ≤ d.toNat ∧ d.toNat ≤ 57 := by
  unfold Lib.itoa
  by_cases h : n < 0
  · rw [if_pos h]; exact ⟨45, _, rfl, .inl rfl, dec_chars _⟩
  · rw [if_neg h]
    cases e : Lib.decDigits n.toNat with
    | nil => exact absurd e (dec_ne _)
    | cons c l =>
      have := dec_chars n.toNat
      rw [e] at this
      exact ⟨c, l, rfl, .inr (this c (List.mem_cons_self ..)), fun d hd => this d (List.mem_cons_of_mem _ hd)⟩
theorem itoa_inj {a b : Int} (h : Lib.itoa a = Lib.itoa b) : a = b := by
  unfold Lib.itoa at h
  by_cases ha : a < 0
  · rw [if_pos ha] at h
    by_cases hb : b < 0
    · rw [if_pos hb] at h
      injection h with _ h
      have := dec_inj h
      omega
    · rw [if_neg hb] at h
      have := dec_chars b.toNat 45 (by rw [← h]; exact List.mem_cons_self ..)
      exact absurd this (by decide)
  · rw [if_neg ha] at h
    by_cases hb : b < 0
    · rw [if_pos hb] at h
      have := dec_chars a.toNat 45 (by rw [h]; exact List.mem_cons_self ..)
      exact absurd this (by decide)
    · rw [if_neg hb] at h
      have := dec_inj h
      omega

/-! ### Where a text ends -/
/-- What may stand behind an item: nothing, a comma, a bracket. -/
def Ends (r : List UInt8) : Prop := r = [] ∨ (∃ l, r = 44 :: l) ∨ ∃ l, r = 41 :: l
/-- No comma and no bracket. -/
def Plain (p : List UInt8) : Prop := ∀ c ∈ p, c ≠ 44 ∧ c ≠ 41
theorem cut_unique : ∀ {p q r r' : List UInt8}, Plain p → Plain q → Ends r → Ends r' → p ++ r = q ++ r' → p = q ∧ r = r'
  | [], [], _, _, _, _, _, _, h => ⟨rfl, h⟩
  | [], c :: q, r, r', _, hq, hr, _, h => by
    have hc := hq c (List.mem_cons_self ..)
    rw [List.nil_append, List.cons_append] at h
    rcases hr with rfl | ⟨l, rfl⟩ | ⟨l, rfl⟩
    · cases h
    · injection h with h _; exact absurd h.symm hc.1
    · injection h with h _; exact absurd h.symm hc.2
  | c :: p, [], r, r', hp, _, _, hr, h => by
    have hc := hp c (List.mem_cons_self ..)
    rw [List.nil_append, List.cons_append] at h
    rcases hr with rfl | ⟨l, rfl⟩ | ⟨l, rfl⟩
    · cases h
    · injection h with h _; exact absurd h hc.1
    · injection h with h _; exact absurd h hc.2
  | c :: p, d :: q, r, r', hp, hq, hr, hr', h => by
    rw [List.cons_append, List.cons_append] at h
    injection h with h1 h2
    obtain ⟨e1, e2⟩ := cut_unique (fun x hx => hp x (List.mem_cons_of_mem _ hx)) (fun x hx => hq x (List.mem_cons_of_mem _ hx)) hr hr' h2
    exact ⟨by rw [h1, e1], e2⟩

namespace VT
/-- What is asked of a right value that is no tuple. -/
def Leaf (t : VT) : Prop := (t.k = 0 ∧ t.s.toList = [] ∧ t.len = 0) ∨ (t.k = 1 ∧ (t.n = 0 ∨ t.n = 1) ∧ t.s.toList = [] ∧ t.len = 0) ∨ (t.k = 2 ∧ t.n = 0 ∧ isName t.s ∧ t.len = 0)
theorem leaf_of {t : VT} (h : leafB t = true) : Leaf t := by
  by_cases h0 : t.k = 0
  · rw [leaf0 h0] at h; simp at h; exact .inl ⟨h0, h.1, h.2⟩
  · by_cases h1 : t.k = 1
    · rw [leaf1 h1] at h; simp at h; exact .inr (.inl ⟨h1, h.1, h.2.1, h.2.2⟩)
    · by_cases h2 : t.k = 2
      · rw [leaf2 h2] at h; simp at h
        refine .inr (.inr ⟨h2, h.1, ?_, h.2.2⟩)
        have := h.2.1
        unfold nameB at this
        simpa using this
      · rw [leaf9 h0 h1 h2] at h; cases h
theorem name_chars {s : ByteArray} (h : isName s) : ∀ c ∈ s.data.toList, 48 ≤ c.toNat ∧ c.toNat ≤ 122 ∧ ¬ (58 ≤ c.toNat ∧ c.toNat ≤ 96) := by
  intro c hc
  obtain ⟨i, hi, rfl⟩ := List.getElem_of_mem hc
  have hi2 : i < s.size := by rw [Array.length_toList] at hi; exact hi
  have ha := h.2.2 i hi2
  rw [atB_lt hi2] at ha
  have e : s.data.toList[i] = s[i] := rfl
  rw [e]
  unfold letB digB at ha
  simp at ha
  omega
/-- The first byte of a text tells its kind. -/
theorem leafT_first {t : VT} (h : Leaf t) : ∃ c l, leafT t = c :: l ∧ ((t.k = 0 ∧ (c.toNat = 45 ∨ (48 ≤ c.toNat ∧ c.toNat ≤ 57))) ∨ (t.k = 1 ∧ (c.toNat = 116 ∨ c.toNat = 102)) ∨ (t.k = 2 ∧ c.toNat = 39)) := by
  rcases h with ⟨h, _⟩ | ⟨h, _⟩ | ⟨h, _⟩
  · obtain ⟨c, l, e, hc, _⟩ := itoa_head t.n
    rw [leafT0 h, e]
    exact ⟨c, l, rfl, .inl ⟨h, hc⟩⟩
  · rw [leafT1 h]
    cases t.n == 1
    · exact ⟨102, [97, 108, 115, 101], rfl, .inr (.inl ⟨h, .inr rfl⟩)⟩
    · exact ⟨116, [114, 117, 101], rfl, .inr (.inl ⟨h, .inl rfl⟩)⟩
  · rw [leafT2 h]
    exact ⟨39, _, rfl, .inr (.inr ⟨h, rfl⟩)⟩
theorem leafT_plain {t : VT} (h : Leaf t) : Plain (leafT t) := by
  have far : ∀ {c : UInt8}, (c.toNat = 45 ∨ 48 ≤ c.toNat) → c ≠ 44 ∧ c ≠ 41 := fun {c} hc => ⟨fun e => by subst e; revert hc; decide, fun e => by subst e; revert hc; decide⟩
  rcases h with ⟨h, _⟩ | ⟨h, _⟩ | ⟨h, _, hn, _⟩
  · obtain ⟨c, l, e, hc, hl⟩ := itoa_head t.n
    rw [leafT0 h, e]
    intro d hd
    rcases List.mem_cons.1 hd with rfl | hd
    · exact far (by omega)
    · exact far (.inr (hl d hd).1)
  · rw [leafT1 h]
    cases t.n == 1
    · show ∀ c ∈ [102, 97, 108, 115, 101], c ≠ 44 ∧ c ≠ 41
      decide
    · show ∀ c ∈ [116, 114, 117, 101], c ≠ 44 ∧ c ≠ 41
      decide
  · rw [leafT2 h]
    intro d hd
    rcases List.mem_cons.1 hd with rfl | hd
    · exact ⟨by decide, by decide⟩
    · exact far (.inr (name_chars hn d hd).1)
theorem same_roots {x y : VT} (h1 : x.k = y.k) (h2 : x.n = y.n) (h3 : x.s.toList = y.s.toList) (h4 : x.len = 0) (h5 : y.len = 0) : sameB x y = true := by
  rw [sameB_eq, h4, h5]
  simp [h1, h2, h3, allTo]
theorem leafT_inj {x y : VT} (hx : Leaf x) (hy : Leaf y) (h : leafT x = leafT y) : sameB x y = true := by
  obtain ⟨c, l, e, hc⟩ := leafT_first hx
  obtain ⟨d, m, e', hd⟩ := leafT_first hy
  have ecd : c = d := by rw [e, e'] at h; injection h
  subst ecd
  rcases hx with ⟨kx, sx, lx⟩ | ⟨kx, nx, sx, lx⟩ | ⟨kx, nx, sx, lx⟩
  · rcases hy with ⟨ky, sy, ly⟩ | ⟨ky, _⟩ | ⟨ky, _⟩
    · rw [leafT0 kx, leafT0 ky] at h
      exact same_roots (by rw [kx, ky]) (itoa_inj h) (by rw [sx, sy]) lx ly
    · omega
    · omega
  · rcases hy with ⟨ky, _⟩ | ⟨ky, ny, sy, ly⟩ | ⟨ky, _⟩
    · omega
    · rw [leafT1 kx, leafT1 ky] at h
      refine same_roots (by rw [kx, ky]) ?_ (by rw [sx, sy]) lx ly
      rcases nx with nx | nx <;> rcases ny with ny | ny <;> rw [nx, ny] at h ⊢
      · exact absurd h (by decide)
      · exact absurd h (by decide)
    · omega
  · rcases hy with ⟨ky, _⟩ | ⟨ky, _⟩ | ⟨ky, ny, sy, ly⟩
    · omega
    · omega
    · rw [leafT2 kx, leafT2 ky] at h
      injection h with _ h
      exact same_roots (by rw [kx, ky]) (by rw [nx, ny]) (by rw [ByteArray.toList_eq, ByteArray.toList_eq, h]) lx ly

/-- Alike, one by one. -/
def SameL : List VT → List VT → Prop
  | [], [] => True
  | a :: l, b :: m => sameB a b = true ∧ SameL l m
  | _, _ => False
theorem SameL.out : ∀ {l m : List VT}, SameL l m → l.length = m.length ∧ ∀ i (h : i < l.length) (h' : i < m.length), sameB l[i] m[i] = true
  | [], [], _ => ⟨rfl, fun i h => by simp at h⟩
  | a :: l, b :: m, h => by
    obtain ⟨h1, h2⟩ := SameL.out h.2
    refine ⟨by simp [h1], fun i hi hi' => ?_⟩
    cases i with
    | zero => exact h.1
    | succ i => exact h2 i (by simpa using hi) (by simpa using hi')
  | [], _ :: _, h => h.elim
  | _ :: _, [], h => h.elim
/-- What stands behind the first item. -/
def J (T : VT → List UInt8) : List VT → List UInt8
  | [] => []
  | a :: l => 44 :: 32 :: (T a ++ J T l)
theorem joinTail_J (T : VT → List UInt8) : ∀ l : List VT, Lib.joinTail [44, 32] (l.map T) = J T l
  | [] => rfl
  | a :: l => by
    show Lib.joinTail [44, 32] (T a :: l.map T) = 44 :: 32 :: (T a ++ J T l)
    rw [← joinTail_J T l]
    simp [Lib.joinTail]
/-- One text tells apart. -/
def Tells (T : VT → List UInt8) (R : VT → Prop) : Prop := ∀ x y, R x → R y → ∀ r r', Ends r → Ends r' → T x ++ r = T y ++ r' → sameB x y = true ∧ r = r'
theorem ends_J (T : VT → List UInt8) (l : List VT) (r : List UInt8) : Ends (J T l ++ 41 :: r) := by
  cases l with
  | nil => exact .inr (.inr ⟨_, rfl⟩)
  | cons a l => exact .inr (.inl ⟨_, rfl⟩)
theorem J_inj {T : VT → List UInt8} {R : VT → Prop} (hT : Tells T R) : ∀ {l m : List VT} {r r' : List UInt8}, (∀ x ∈ l, R x) → (∀ x ∈ m, R x) → J T l ++ 41 :: r = J T m ++ 41 :: r' → SameL l m ∧ r = r'
  | [], [], _, _, _, _, h => by injection h with _ h; exact ⟨trivial, h⟩
  | [], b :: m, _, _, _, _, h => by injection h with h _; exact absurd h (by decide)
  | a :: l, [], _, _, _, _, h => by injection h with h _; exact absurd h (by decide)
  | a :: l, b :: m, r, r', hl, hm, h => by
    have h2 : T a ++ (J T l ++ 41 :: r) = T b ++ (J T m ++ 41 :: r') := by
      have h3 : 44 :: 32 :: ((T a ++ J T l) ++ 41 :: r) = 44 :: 32 :: ((T b ++ J T m) ++ 41 :: r') := h
      injection h3 with _ h3
      injection h3 with _ h3
      rwa [List.append_assoc, List.append_assoc] at h3
    obtain ⟨e1, e2⟩ := hT a b (hl a (List.mem_cons_self ..)) (hm b (List.mem_cons_self ..)) _ _ (ends_J T l r) (ends_J T m r') h2
    obtain ⟨e3, e4⟩ := J_inj hT (fun x hx => hl x (List.mem_cons_of_mem _ hx)) (fun x hx => hm x (List.mem_cons_of_mem _ hx)) e2
    exact ⟨⟨e1, e3⟩, e4⟩
/-- The items of a tree as a list. -/
def items (t : VT) : List VT := (List.range t.len).map t.kid
theorem items_len (t : VT) : t.items.length = t.len := by simp [items]
theorem items_get (t : VT) (i : Nat) (h : i < t.items.length) : t.items[i] = t.kid i := by simp [items]
theorem items_mem {t x : VT} (h : x ∈ t.items) : ∃ i, i < t.len ∧ x = t.kid i := by
  obtain ⟨i, hi, rfl⟩ := List.mem_map.1 h
  exact ⟨i, List.mem_range.1 hi, rfl⟩
theorem tupL_items (T : VT → List UInt8) (t : VT) (a : VT) (l : List VT) (h : t.items = a :: l) : tupL (fun i => T (t.kid i)) t.len = 40 :: (T a ++ (J T l ++ ((if l = [] then [44] else []) ++ [41]))) := by
  have hlen : t.len = l.length + 1 := by rw [← items_len, h]; rfl
  have e : joinL (fun i => T (t.kid i)) t.len = T a ++ J T l := by
    unfold joinL
    have e1 : (List.range t.len).map (fun i => T (t.kid i)) = t.items.map T := by unfold items; rw [List.map_map]; rfl
    rw [e1, h, List.map_cons, Lib.join_cons, joinTail_J]
  unfold tupL
  rw [e, List.append_assoc]
  have e2 : (if t.len = 1 then [44] else ([] : List UInt8)) = if l = [] then [44] else [] := by
    by_cases hl : l = []
    · subst hl
      rw [if_pos (by simpa using hlen), if_pos rfl]
    · rw [if_neg hl, if_neg]
      intro e3
      exact hl (List.eq_nil_of_length_eq_zero (by omega))
  rw [e2]
theorem tup_inj {T : VT → List UInt8} {R : VT → Prop} (hT : Tells T R) {x y : VT} (hx : 1 ≤ x.len) (hy : 1 ≤ y.len) (hRx : ∀ i, i < x.len → R (x.kid i)) (hRy : ∀ i, i < y.len → R (y.kid i)) {r r' : List UInt8}
    (h : tupL (fun i => T (x.kid i)) x.len ++ r = tupL (fun i => T (y.kid i)) y.len ++ r') : (x.len = y.len ∧ ∀ i, i < x.len → sameB (x.kid i) (y.kid i) = true) ∧ r = r' := by
  have mx : ∀ z ∈ x.items, R z := fun z hz => by obtain ⟨i, hi, rfl⟩ := items_mem hz; exact hRx i hi
  have my : ∀ z ∈ y.items, R z := fun z hz => by obtain ⟨i, hi, rfl⟩ := items_mem hz; exact hRy i hi
  have fin : SameL x.items y.items → x.len = y.len ∧ ∀ i, i < x.len → sameB (x.kid i) (y.kid i) = true := fun hs => by
    obtain ⟨h1, h2⟩ := hs.out
    rw [items_len, items_len] at h1
    refine ⟨h1, fun i hi => ?_⟩
    have := h2 i (by rw [items_len]; exact hi) (by rw [items_len]; omega)
    rwa [items_get, items_get] at this
  cases ex : x.items with
  | nil => have := items_len x; rw [ex] at this; simp at this; omega
  | cons a l =>
    cases ey : y.items with
    | nil => have := items_len y; rw [ey] at this; simp at this; omega
    | cons b m =>
      rw [tupL_items T x a l ex, tupL_items T y b m ey] at h
      have h2 : T a ++ (J T l ++ ((if l = [] then [44] else []) ++ [41]) ++ r) = T b ++ (J T m ++ ((if m = [] then [44] else []) ++ [41]) ++ r') := by
        simp only [List.cons_append, List.append_assoc, List.cons.injEq, true_and] at h ⊢
        exact h
      rw [ex] at mx fin
      rw [ey] at my fin
      have en : ∀ (l : List VT) (r : List UInt8), Ends (J T l ++ ((if l = [] then [44] else []) ++ [41]) ++ r) := fun l r => by
        cases l with
        | nil => exact .inr (.inl ⟨_, rfl⟩)
        | cons a l => exact .inr (.inl ⟨_, rfl⟩)
      obtain ⟨e1, e2⟩ := hT a b (mx a (List.mem_cons_self ..)) (my b (List.mem_cons_self ..)) _ _ (en l r) (en m r') h2
      have ml := fun z hz => mx z (List.mem_cons_of_mem _ hz)
      have mm := fun z hz => my z (List.mem_cons_of_mem _ hz)
      cases l with
      | nil =>
        cases m with
        | nil =>
          have h3 : (44 : UInt8) :: 41 :: r = 44 :: 41 :: r' := e2
          injection h3 with _ h3
          injection h3 with _ h3
          exact ⟨fin ⟨e1, trivial⟩, h3⟩
        | cons c m =>
          have h3 : (44 : UInt8) :: 41 :: r = 44 :: 32 :: ((T c ++ J T m) ++ ([] ++ [41]) ++ r') := e2
          injection h3 with _ h3
          injection h3 with h3 _
          exact absurd h3 (by decide)
      | cons c l =>
        cases m with
        | nil =>
          have h3 : (44 : UInt8) :: 32 :: ((T c ++ J T l) ++ ([] ++ [41]) ++ r) = 44 :: 41 :: r' := e2
          injection h3 with _ h3
          injection h3 with h3 _
          exact absurd h3 (by decide)
        | cons d m =>
          rw [if_neg (by simp), if_neg (by simp), List.nil_append, List.append_assoc, List.append_assoc] at e2
          obtain ⟨e3, e4⟩ := J_inj hT ml mm e2
          exact ⟨fin ⟨e1, e3⟩, e4⟩

/-- A right value with at most m tuples within one another: as asked of texts. -/
theorem tells_leaf : Tells leafT Leaf := fun x y hx hy r r' hr hr' h => by
  obtain ⟨e1, e2⟩ := cut_unique (leafT_plain hx) (leafT_plain hy) hr hr' h
  exact ⟨leafT_inj hx hy e1, e2⟩
theorem leaf_right {t : VT} {m : Nat} (h : rightB m t = true) (h3 : t.k ≠ 3) : Leaf t := leaf_of (by rwa [rightB_leaf h3] at h)
theorem tup_root {t : VT} {m : Nat} (h : rightB m t = true) (h3 : t.k = 3) : t.n = 0 ∧ t.s.toList = [] := by
  rw [rightB_tup h3] at h
  simp at h
  exact ⟨h.1, h.2.1⟩
theorem tells_right : ∀ m, Tells (textM m) (fun t => rightB m t = true)
  | 0 => fun x y hx hy r r' hr hr' h => tells_leaf x y (leaf_right hx (rightB_zero hx)) (leaf_right hy (rightB_zero hy)) r r' hr hr' h
  | m + 1 => fun x y hx hy r r' hr hr' h => by
    by_cases h3 : x.k = 3
    · by_cases h4 : y.k = 3
      · rw [textM_tup h3, textM_tup h4] at h
        obtain ⟨lx, _, kx⟩ := rightB_kids hx h3
        obtain ⟨ly, _, ky⟩ := rightB_kids hy h4
        obtain ⟨⟨e1, e2⟩, e3⟩ := tup_inj (tells_right m) lx ly kx ky h
        refine ⟨?_, e3⟩
        rw [sameB_eq, allTo_true.2 e2, h3, h4, (tup_root hx h3).1, (tup_root hy h4).1, (tup_root hx h3).2, (tup_root hy h4).2, e1]
        simp
      · rw [textM_tup h3, textM_leaf h4] at h
        obtain ⟨c, l, e, hc⟩ := leafT_first (leaf_right hy h4)
        rw [e] at h
        injection h with h _
        subst h
        rw [show UInt8.toNat 40 = 40 from rfl] at hc
        omega
    · by_cases h4 : y.k = 3
      · rw [textM_leaf h3, textM_tup h4] at h
        obtain ⟨c, l, e, hc⟩ := leafT_first (leaf_right hx h3)
        rw [e] at h
        injection h with h _
        subst h
        rw [show UInt8.toNat 40 = 40 from rfl] at hc
        omega
      · rw [textM_leaf h3, textM_leaf h4] at h
        exact tells_leaf x y (leaf_right hx h3) (leaf_right hy h4) r r' hr hr' h
theorem text_inj {x y : VT} (hx : x.okB = true) (hy : y.okB = true) (h : x.textB = y.textB) : sameB x y = true := by
  unfold textB at h
  rw [if_pos hx, if_pos hy] at h
  exact (tells_right 3 x y hx hy [] [] (.inl rfl) (.inl rfl) (by rw [List.append_nil, List.append_nil]; exact h)).1
/-- Alike values have one text. -/
theorem textM_same : ∀ (m : Nat) (x y : VT), sameB x y = true → textM m x = textM m y := by
  have root : ∀ x y : VT, sameB x y = true → x.k = y.k ∧ x.n = y.n ∧ x.s = y.s ∧ x.len = y.len ∧ ∀ i, i < x.len → sameB (x.kid i) (y.kid i) = true := fun x y h => by
    rw [sameB_eq] at h
    simp at h
    refine ⟨h.1.1, h.1.2.1, ?_, h.2.1, allTo_true.1 h.2.2⟩
    have := h.1.2.2
    rw [ByteArray.toList_eq, ByteArray.toList_eq] at this
    exact Go.WideShapes.bytes_inj this
  have leaf : ∀ x y : VT, sameB x y = true → leafT x = leafT y := fun x y h => by
    obtain ⟨h1, h2, h3, _⟩ := root x y h
    unfold leafT
    rw [h1, h2, h3]
  intro m
  induction m with
  | zero => exact leaf
  | succ m ih =>
    intro x y h
    obtain ⟨h1, h2, h3, h4, h5⟩ := root x y h
    by_cases hk : x.k = 3
    · rw [textM_tup hk, textM_tup (h1 ▸ hk), ← h4]
      unfold tupL joinL
      have e : (List.range x.len).map (fun i => textM m (x.kid i)) = (List.range x.len).map (fun i => textM m (y.kid i)) := List.map_congr_left fun i hi => ih _ _ (h5 i (List.mem_range.1 hi))
      rw [e]
    · rw [textM_leaf hk, textM_leaf (h1 ▸ hk)]
      exact leaf x y h
/-- Two right values are level just if their texts are the same. -/
theorem text_cmp {x y : VT} (hx : x.okB = true) (hy : y.okB = true) : (x.textB = y.textB) ↔ cmp x y = 0 := by
  rw [cmp_zero]
  constructor
  · exact text_inj hx hy
  · intro h
    unfold textB
    rw [if_pos hx, if_pos hy]
    exact textM_same 3 x y h
end VT
end Go.Proofs.YtjkmgmcgbpnjhaaDoor
