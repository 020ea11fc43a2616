/-
  A row of elements of k cells that is copied within itself; what an insertion comes to; what a call on a bag leaves alone. No condition but those that each theorem states.
-/
import Derived.Test.YtfjipkkhjjpaiaaQuietR
import Derived.Test.YtfjipkkhjjpaiaaWeaveM
import Derived.Test.YtfjipkkhjjpaiaaBagIsT
import Derived.Deep.AppendLies
import Derived.Laws.CopyRow
import Derived.RangeFuncFrom
namespace Go.Proofs.Ytfjipkkhjjpaiaa
open Go.RowKit Go.Shelf Go.Lib Go.Sort St

/-- What a sorted list is with others put in, each behind those that it is level with. -/
structure Ins {α : Type} (key : α → Int) (xs ys R : List α) : Prop where
  len : R.length = xs.length + ys.length
  srt : R.Pairwise (fun x y => key x ≤ key y)
  flt : ∀ k : Int, R.filter (fun x => key x == k) = xs.filter (fun x => key x == k) ++ ys.filter (fun x => key x == k)
theorem Ins.of {α : Type} {key : α → Int} {xs ys : List α} {e : Nat} {S R : List α} (h : Back key xs ys e 0 S) (hm : Mid xs e 0 S R) (he : e ≤ xs.length) (hxs : xs.Pairwise (fun x y => key x ≤ key y)) (hy : ∀ x ∈ xs.take e, ∀ y ∈ ys, key x ≤ key y) : Ins key xs ys R := by
  obtain ⟨J, rfl, hJ⟩ := hm.split
  obtain rfl : J = [] := List.eq_nil_of_length_eq_zero hJ
  rw [List.nil_append]
  have hsplit := List.take_append_drop e xs
  refine ⟨?_, List.pairwise_append.2 ⟨hxs.sublist (List.take_sublist _ _), h.srt, fun a ha b hb => ?_⟩, fun k => ?_⟩
  · rw [List.length_append, List.length_take, h.len]
    omega
  · rcases h.mem hb with hb | hb
    · have hq := hxs
      rw [← hsplit] at hq
      exact (List.pairwise_append.1 hq).2.2 a ha b hb
    · exact hy a ha b (by simpa using hb)
  · rw [List.filter_append, h.flt, List.drop_zero, ← List.append_assoc, ← List.filter_append, hsplit]

/-- A call changed nothing that was there but the bag's box and its row. -/
structure Touch (b : Nat) (row : Option Nat) (W W' : World) : Prop where
  os : W'.os = W.os
  tape : W'.tape = W.tape
  output : W'.output = W.output
  size : W.heap.size ≤ W'.heap.size
  block : ∀ k, k < W.heap.size → k ≠ b → some k ≠ row → W'.heap[k]? = W.heap[k]?
theorem Touch.below {b : Nat} {row : Option Nat} {W W' : World} (h : Below W.heap.size W W') : Touch b row W W' := ⟨h.os, h.tape, h.output, h.size, fun k hk _ _ => h.block k hk⟩
theorem Touch.trans {b : Nat} {row row' : Option Nat} {A B C : World} (h : Touch b row A B) (k : Touch b row' B C) (hr : row' = row ∨ ∀ g, row' = some g → A.heap.size ≤ g) : Touch b row A C :=
  ⟨k.os.trans h.os, k.tape.trans h.tape, k.output.trans h.output, Nat.le_trans h.size k.size, fun i hi h1 h2 => (k.block i (Nat.lt_of_lt_of_le hi h.size) h1 (by
    rcases hr with e | e
    · rw [e]; exact h2
    · intro e2
      have := e i e2.symm
      omega)).trans (h.block i hi h1 h2)⟩
theorem Touch.below_of {b : Nat} {row : Option Nat} {W W' : World} {B : Nat} (h : Touch b row W W') (hB : B ≤ W.heap.size) (hb : B ≤ b) (hr : ∀ g, row = some g → B ≤ g) : Below B W W' :=
  ⟨h.os, h.tape, h.output, h.size, fun k hk => h.block k (by omega) (by omega) fun e => by have := hr k e.symm; omega⟩

theorem flat_len {α : Type} {c : α → List Value} {sz : Nat} (hc : ∀ x, (c x).length = sz) : ∀ xs : List α, (xs.flatMap c).length = xs.length * sz
  | [] => by simp
  | x :: xs => by rw [List.flatMap_cons, List.length_append, hc, flat_len hc xs, List.length_cons, Nat.add_mul]; omega
theorem flat_take {α : Type} {c : α → List Value} {sz : Nat} (hc : ∀ x, (c x).length = sz) : ∀ (xs : List α) (k : Nat), (xs.flatMap c).take (k * sz) = (xs.take k).flatMap c
  | [], k => by simp
  | x :: xs, 0 => by simp
  | x :: xs, k + 1 => by
    rw [List.flatMap_cons, List.take_append, hc, List.take_of_length_le (by rw [hc, Nat.add_mul]; omega), show (k + 1) * sz - sz = k * sz from by rw [Nat.add_mul]; omega, flat_take hc xs k]
    simp
theorem flat_drop {α : Type} {c : α → List Value} {sz : Nat} (hc : ∀ x, (c x).length = sz) : ∀ (xs : List α) (k : Nat), (xs.flatMap c).drop (k * sz) = (xs.drop k).flatMap c
  | [], k => by simp
  | x :: xs, 0 => by simp
  | x :: xs, k + 1 => by
    rw [List.flatMap_cons, List.drop_append, hc, List.drop_eq_nil_of_le (by rw [hc, Nat.add_mul]; omega), show (k + 1) * sz - sz = k * sz from by rw [Nat.add_mul]; omega, flat_drop hc xs k]
    simp
theorem flat_get {α : Type} {c : α → List Value} {sz : Nat} (hc : ∀ x, (c x).length = sz) (xs : List α) (i j : Nat) (hi : i < xs.length) (hj : j < sz) : (xs.flatMap c)[i * sz + j]? = (c xs[i])[j]? := by
  have h : xs = xs.take i ++ (xs[i] :: xs.drop (i + 1)) := by rw [← List.drop_eq_getElem_cons hi, List.take_append_drop]
  have h2 : xs.flatMap c = (xs.take i).flatMap c ++ (c xs[i] ++ (xs.drop (i + 1)).flatMap c) := by
    conv => lhs; rw [h]
    rw [List.flatMap_append, List.flatMap_cons]
  have hl : ((xs.take i).flatMap c).length = i * sz := by rw [flat_len hc, List.length_take, Nat.min_eq_left (by omega)]
  rw [h2, List.getElem?_append_right (by omega), hl, Nat.add_sub_cancel_left, List.getElem?_append_left (by rw [hc]; exact hj)]

/-- A row that a value leads to. -/
structure RowIs {α : Type} (c : α → List Value) (sz : Nat) (e : TypeId) (g nm cap : Nat) (W : World) (R : List α) : Prop where
  len : R.length = nm
  row : W.ownsRow 0 e sz (.slice (some ⟨g, 0, none⟩) nm cap) nm (R.flatMap c)
theorem RowIs.whole {α : Type} {c : α → List Value} {sz : Nat} {e : TypeId} {g nm cap : Nat} {W : World} {R : List α} (h : RowIs c sz e g nm cap W R) : ∃ cur, W.heap[g]? = some (.cells cur e (0, 0)) ∧ nm ≤ cap ∧ cap ≤ maxLen ∧ cur.size = cap * sz ∧ cur.toList.take (nm * sz) = R.flatMap c := by
  rcases h.row.2 with ⟨h, _⟩ | ⟨g', cap', cur, h, _, rest⟩
  · simp at h
  · simp only [Value.slice.injEq, Option.some.injEq, Addr.mk.injEq, and_true, true_and] at h
    obtain ⟨rfl, rfl⟩ := h
    exact ⟨cur, rest⟩
theorem RowIs.of {α : Type} {c : α → List Value} {sz : Nat} {e : TypeId} {g nm cap : Nat} {W : World} {R : List α} {cur : Array Value} (hl : R.length = nm) (hc : ∀ x, (c x).length = sz) (h1 : W.heap[g]? = some (.cells cur e (0, 0))) (h2 : nm ≤ cap) (h3 : cap ≤ maxLen) (h4 : cur.size = cap * sz) (h5 : cur.toList.take (nm * sz) = R.flatMap c) : RowIs c sz e g nm cap W R :=
  ⟨hl, by rw [flat_len hc, hl], .inr ⟨g, cap, cur, rfl, Nat.zero_le _, h1, h2, h3, h4, h5⟩⟩
theorem RowIs.same {α : Type} {c : α → List Value} {sz : Nat} {e : TypeId} {g nm cap : Nat} {W W' : World} {R : List α} (h : RowIs c sz e g nm cap W R) (hc : ∀ x, (c x).length = sz) (hg : W'.heap[g]? = W.heap[g]?) : RowIs c sz e g nm cap W' R := by
  obtain ⟨cur, h1, h2, h3, h4, h5⟩ := h.whole
  exact RowIs.of h.len hc (hg.trans h1) h2 h3 h4 h5

theorem run_copy_k {P : Program} (w : World) (dT sT ty elem : TypeId) (sz g o dLen dCap : Nat) (a : Addr) (sLen sCap : Nat) (cur : Array Value) (t : TypeId) (cs : List Value)
    (hu : P.underlying dT = some (.slice elem)) (hs : (P.info? elem).map (·.size) = some sz)
    (hg : w.heap[g]? = some (.cells cur t (0, 0))) (hn : cs.length = Nat.min sLen dLen * sz)
    (hsrc : ∀ j v, cs[j]? = some v → w.cell? (a.add j) = some v) (hfit : o + cs.length ≤ cur.size) (h1 : ∀ v ∈ cs, v.oneCell' = true) :
    (Builtin.copy_ #[dT, sT] ty #[.slice (some ⟨g, o, none⟩) dLen dCap, .slice (some a) sLen sCap]).run P w =
      .ok (goInt (Nat.min sLen dLen)) (w.setRow g (cur.toList.take o ++ cs ++ cur.toList.drop (o + cs.length)).toArray) := by
  have hl := run_loadCells_list (P := P) w a cs hsrc
  have hst := run_storeCells_at P g o t cs 0 cur w hg (by simpa using hfit) h1
  cases hq : P.info? elem with
  | none => simp [hq] at hs
  | some i =>
    have hi : i.size = sz := by simpa [hq] using hs
    simp [Builtin.copy_, run_underlying hu, Builtin.lenOf, Builtin.firstCells, sizeOf, typeInfo, hq, hi, ← hn, hl, hst]
theorem run_copy_zero {P : Program} (w : World) (dT sT ty elem : TypeId) (sz : Nat) (d a : Option Addr) (dLen dCap sLen sCap : Nat) (hu : P.underlying dT = some (.slice elem)) (hs : (P.info? elem).map (·.size) = some sz) (hn : Nat.min sLen dLen = 0) :
    (Builtin.copy_ #[dT, sT] ty #[.slice d dLen dCap, .slice a sLen sCap]).run P w = .ok (goInt 0) w := by
  cases hq : P.info? elem with
  | none => simp [hq] at hs
  | some i =>
    have hl : ∀ (x : Addr), (loadCells x 0).run P w = .ok #[] w := fun x => by simpa using run_loadCells_list (P := P) w x [] (by simp)
    cases d <;> cases a <;> simp [Builtin.copy_, run_underlying hu, Builtin.lenOf, Builtin.firstCells, sizeOf, typeInfo, hq, hn, storeCells, hl]

/-- A stretch of a row copied within the row. -/
theorem copy_seg {α : Type} {c : α → List Value} {sz : Nat} (hc : ∀ x, (c x).length = sz) (h1 : ∀ x, ∀ v ∈ c x, v.oneCell' = true) {P : Program} {W : World} {T ty elem : TypeId} {g p e r nm cap : Nat} {R : List α}
    (hu : P.underlying T = some (.slice elem)) (hs : (P.info? elem).map (·.size) = some sz) (hrow : RowIs c sz elem g nm cap W R) (hpe : p ≤ e) (hr : r + (e - p) ≤ nm) (hen : e ≤ nm) :
    ∃ W' k, (Builtin.copy_ #[T, T] ty #[sliced (some ⟨g, 0, none⟩) r nm cap sz, sliced (some ⟨g, 0, none⟩) p e cap sz]).run P W = .ok k W' ∧
      RowIs c sz elem g nm cap W' (R.take r ++ ((R.drop p).take (e - p) ++ R.drop (r + (e - p)))) ∧ W.grownBy W' (some g) ∧ W'.heap.size = W.heap.size := by
  obtain ⟨cur, w1, w2, w3, w4, w5⟩ := hrow.whole
  obtain ⟨d, rfl⟩ : ∃ d, e = p + d := ⟨e - p, by omega⟩
  have hd : p + d - p = d := by omega
  rw [hd] at hr ⊢
  by_cases h0 : d = 0
  · subst h0
    refine ⟨W, _, run_copy_zero W T T ty elem sz _ _ _ _ _ _ hu hs (by rw [hd]; exact Nat.zero_min _), ?_, ⟨rfl, rfl, rfl, Nat.le_refl _, fun _ _ _ => rfl⟩, rfl⟩
    rw [List.take_zero, List.nil_append, Nat.add_zero, List.take_append_drop]
    exact hrow
  · have hcs : ((R.drop p).take d).length = d := by rw [List.length_take, List.length_drop, hrow.len]; omega
    have hsl : ∀ l h m, l ≠ m → sliced (some ⟨g, 0, none⟩) l h m sz = .slice (some ⟨g, l * sz, none⟩) (h - l) (m - l) := by
      intro l h m hne
      unfold sliced
      rw [if_neg (fun e => hne e.symm)]
      have : (⟨g, 0, none⟩ : Addr).add (l * sz) = ⟨g, l * sz, none⟩ := by unfold Addr.add; split <;> simp_all
      simp [this]
    rw [hsl r nm cap (by omega), hsl p (p + d) cap (by omega), hd]
    have hmin : Nat.min d (nm - r) = d := Nat.min_eq_left (by omega)
    have hRl : (R.flatMap c).length = nm * sz := by rw [flat_len hc, hrow.len]
    have hmul1 : (r + d) * sz ≤ nm * sz := Nat.mul_le_mul_right _ hr
    have hmul2 : nm * sz ≤ cap * sz := Nat.mul_le_mul_right _ w2
    have hmul3 : (p + d) * sz ≤ nm * sz := Nat.mul_le_mul_right _ (by omega)
    rw [Nat.add_mul] at hmul1 hmul3
    have hrun := run_copy_k (P := P) W T T ty elem sz g (r * sz) (nm - r) (cap - r) ⟨g, p * sz, none⟩ d (cap - p) cur elem (((R.drop p).take d).flatMap c) hu hs w1 (by rw [flat_len hc, hcs, hmin]) (fun j v hj => by
      have hadd : (⟨g, p * sz, none⟩ : Addr).add j = ⟨g, p * sz + j, none⟩ := by unfold Addr.add; split <;> simp_all
      rw [hadd, cell_of_row W g _ cur elem (0, 0) w1]
      rw [← flat_take hc, ← flat_drop hc, ← w5, List.getElem?_take] at hj
      split at hj
      · rename_i hlt
        rw [List.getElem?_drop, List.getElem?_take] at hj
        split at hj
        · simpa using hj
        · cases hj
      · cases hj) (by rw [flat_len hc, hcs, w4]; omega) (fun v hv => by
      obtain ⟨x, _, hx⟩ := List.mem_flatMap.1 hv
      exact h1 x v hx)
    refine ⟨_, _, hrun, RowIs.of (by simp only [List.length_append, List.length_take, List.length_drop, hrow.len]; omega) hc (setRow_heap W g cur _ elem _ w1) w2 w3 ?_ ?_, ⟨rfl, rfl, rfl, by simp [World.setRow], fun k _ hk => setRow_other W g k _ fun e => hk (by rw [e])⟩, by simp [World.setRow]⟩
    · simp only [List.size_toArray, List.length_append, List.length_take, List.length_drop, Array.length_toList, flat_len hc, hrow.len, w4]
      rw [Nat.min_eq_left (show d ≤ nm - p by omega)]
      omega
    · simp only [List.flatMap_append]
      have e1 : (R.take r).flatMap c = cur.toList.take (r * sz) := by rw [← flat_take hc, ← w5, List.take_take, Nat.min_eq_left (by omega)]
      have e2 : (R.drop (r + d)).flatMap c = (cur.toList.drop (r * sz + d * sz)).take (nm * sz - (r * sz + d * sz)) := by
        rw [← flat_drop hc, ← w5, List.drop_take, Nat.add_mul]
      have hlc : (((R.drop p).take d).flatMap c).length = d * sz := by rw [flat_len hc, hcs]
      have hl1 : (cur.toList.take (r * sz)).length = r * sz := by rw [List.length_take, Array.length_toList, w4]; omega
      have t1 : (cur.toList.take (r * sz)).take (nm * sz) = cur.toList.take (r * sz) := List.take_of_length_le (by omega)
      have t2 : (((R.drop p).take d).flatMap c).take (nm * sz - r * sz) = ((R.drop p).take d).flatMap c := List.take_of_length_le (by omega)
      rw [e1, e2, hlc, List.append_assoc, List.take_append, hl1, t1, List.take_append, hlc, t2]
      congr 3
      omega
end Go.Proofs.Ytfjipkkhjjpaiaa
