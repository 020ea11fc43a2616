/-
  The base of the queue's texts over this seat's translation: entries' cells, worlds, rows, what a call leaves alone, a part taken out of a row in place. No condition but those that each theorem states.
-/
import Derived.Test.YtikpbfghdiomgaaDoorRows
import Derived.Shelf.SlSortCmp.Kit1
import Derived.Shelf.SlSortCmp.KitK
import Derived.Shelf.SlSorted.Search
import Derived.Tactics2
import Derived.WalkKit
import Derived.Lib.Hide
import Derived.Laws.OwnMore
import Derived.Deep.AppendLies
import Derived.Laws.CopyRow
import Derived.RangeFuncFrom
import Derived.Deep.RegionLaw
import Derived.Maps.OwnSet
namespace Go.Proofs.YtikpbfghdiomgaaDoor
open Go.Shelf Go.RowKit Go.Lib Go.Sort

theorem kc' {W W' : World} {p : Addr} {v : Value} (hb : Below W.heap.size W W') (h : W.cell? p = some v) : W'.cell? p = some v := by
  rw [← h]
  exact hb.cell (World.block_lt_of_cell? _ _ h)
theorem bA' {B : Nat} {a w : World} (h : Below B a w) (hB : B ≤ w.heap.size) (o : Obj) : Below B a (w.alloc o) := h.alloc hB o
theorem bT' {a b c : World} {B : Nat} (h : Below B a b) (k : Below b.heap.size b c) (hB : B ≤ b.heap.size) : Below B a c :=
  ⟨k.os.trans h.os, k.tape.trans h.tape, k.output.trans h.output, Nat.le_trans h.size k.size, fun i hi => (k.block i (by omega)).trans (h.block i hi)⟩
theorem bT2 {a w w' : World} (h : Below a.heap.size a w) (k : Below w.heap.size w w') : Below a.heap.size a w' := bT' h k h.size
theorem cg {W : World} {a : Addr} {v : Value} (h : W.cell? a = some v) : ∀ n os, (grow (W.drewN n) os).cell? a = some v := fun n os => cell_grown (World.block_lt_of_cell? _ _ h) h n os
theorem cell_two {W : World} {b : Nat} {u v : Value} {t : TypeId} (h : W.heap[b]? = some (.cells #[u, v] t (0, 0))) : W.cell? ⟨b, 0, none⟩ = some u ∧ W.cell? ⟨b, 1, none⟩ = some v ∧ W.frozen? ⟨b, 1, none⟩ = false := by
  refine ⟨?_, ?_, by simp [World.frozen?, h]⟩
  · unfold World.cell?; rw [h]; rfl
  · unfold World.cell?; rw [h]; rfl
theorem cell_three {W : World} {b : Nat} {u v x : Value} {t : TypeId} (h : W.heap[b]? = some (.cells #[u, v, x] t (0, 0))) : W.cell? ⟨b, 0, none⟩ = some u ∧ W.cell? ⟨b, 1, none⟩ = some v ∧ W.cell? ⟨b, 2, none⟩ = some x ∧ W.frozen? ⟨b, 1, none⟩ = false := by
  refine ⟨?_, ?_, ?_, by simp [World.frozen?, h]⟩
  · unfold World.cell?; rw [h]; rfl
  · unfold World.cell?; rw [h]; rfl
  · unfold World.cell?; rw [h]; rfl
/-- A call changed nothing that was there but a box and its row. -/
structure Touch (b : Nat) (row : Option Nat) (W W' : World) : Prop where
  os : W'.os = W.os
  tape : W'.tape = W.tape
  output : W'.output = W.output
  size : W.heap.size ≤ W'.heap.size
  block : ∀ k, k < W.heap.size → k ≠ b → some k ≠ row → W'.heap[k]? = W.heap[k]?
theorem Touch.below {b : Nat} {row : Option Nat} {W W' : World} (h : Below W.heap.size W W') : Touch b row W W' := ⟨h.os, h.tape, h.output, h.size, fun k hk _ _ => h.block k hk⟩
theorem Touch.trans {b : Nat} {row row' : Option Nat} {A B C : World} (h : Touch b row A B) (k : Touch b row' B C) (hr : row' = row ∨ ∀ g, row' = some g → A.heap.size ≤ g) : Touch b row A C :=
  ⟨k.os.trans h.os, k.tape.trans h.tape, k.output.trans h.output, Nat.le_trans h.size k.size, fun i hi h1 h2 => (k.block i (Nat.lt_of_lt_of_le hi h.size) h1 (by
    rcases hr with e | e
    · rw [e]; exact h2
    · intro e2
      have := e i e2.symm
      omega)).trans (h.block i hi h1 h2)⟩
theorem Touch.below_of {b : Nat} {row : Option Nat} {W W' : World} {B : Nat} (h : Touch b row W W') (hB : B ≤ W.heap.size) (hb : B ≤ b) (hr : ∀ g, row = some g → B ≤ g) : Below B W W' :=
  ⟨h.os, h.tape, h.output, h.size, fun k hk => h.block k (by omega) (by omega) fun e => by have := hr k e.symm; omega⟩

theorem flat_len {α : Type} {c : α → List Value} {sz : Nat} (hc : ∀ x, (c x).length = sz) : ∀ xs : List α, (xs.flatMap c).length = xs.length * sz
  | [] => by simp
  | x :: xs => by rw [List.flatMap_cons, List.length_append, hc, flat_len hc xs, List.length_cons, Nat.add_mul]; omega
theorem flat_take {α : Type} {c : α → List Value} {sz : Nat} (hc : ∀ x, (c x).length = sz) : ∀ (xs : List α) (k : Nat), (xs.flatMap c).take (k * sz) = (xs.take k).flatMap c
  | [], k => by simp
  | x :: xs, 0 => by simp
  | x :: xs, k + 1 => by
    rw [List.flatMap_cons, List.take_append, hc, List.take_of_length_le (by rw [hc, Nat.add_mul]; omega), show (k + 1) * sz - sz = k * sz from by rw [Nat.add_mul]; omega, flat_take hc xs k]
    simp
theorem flat_drop {α : Type} {c : α → List Value} {sz : Nat} (hc : ∀ x, (c x).length = sz) : ∀ (xs : List α) (k : Nat), (xs.flatMap c).drop (k * sz) = (xs.drop k).flatMap c
  | [], k => by simp
  | x :: xs, 0 => by simp
  | x :: xs, k + 1 => by
    rw [List.flatMap_cons, List.drop_append, hc, List.drop_eq_nil_of_le (by rw [hc, Nat.add_mul]; omega), show (k + 1) * sz - sz = k * sz from by rw [Nat.add_mul]; omega, flat_drop hc xs k]
    simp
theorem flat_get {α : Type} {c : α → List Value} {sz : Nat} (hc : ∀ x, (c x).length = sz) (xs : List α) (i j : Nat) (hi : i < xs.length) (hj : j < sz) : (xs.flatMap c)[i * sz + j]? = (c xs[i])[j]? := by
  have h : xs = xs.take i ++ (xs[i] :: xs.drop (i + 1)) := by rw [← List.drop_eq_getElem_cons hi, List.take_append_drop]
  have h2 : xs.flatMap c = (xs.take i).flatMap c ++ (c xs[i] ++ (xs.drop (i + 1)).flatMap c) := by
    conv => lhs; rw [h]
    rw [List.flatMap_append, List.flatMap_cons]
  have hl : ((xs.take i).flatMap c).length = i * sz := by rw [flat_len hc, List.length_take, Nat.min_eq_left (by omega)]
  rw [h2, List.getElem?_append_right (by omega), hl, Nat.add_sub_cancel_left, List.getElem?_append_left (by rw [hc]; exact hj)]

/-- A row that a value leads to. -/
structure RowIs {α : Type} (c : α → List Value) (sz : Nat) (e : TypeId) (g nm cap : Nat) (W : World) (R : List α) : Prop where
  len : R.length = nm
  row : W.ownsRow 0 e sz (.slice (some ⟨g, 0, none⟩) nm cap) nm (R.flatMap c)
theorem RowIs.whole {α : Type} {c : α → List Value} {sz : Nat} {e : TypeId} {g nm cap : Nat} {W : World} {R : List α} (h : RowIs c sz e g nm cap W R) : ∃ cur, W.heap[g]? = some (.cells cur e (0, 0)) ∧ nm ≤ cap ∧ cap ≤ maxLen ∧ cur.size = cap * sz ∧ cur.toList.take (nm * sz) = R.flatMap c := by
  rcases h.row.2 with ⟨h, _⟩ | ⟨g', cap', cur, h, _, rest⟩
  · simp at h
  · simp only [Value.slice.injEq, Option.some.injEq, Addr.mk.injEq, and_true, true_and] at h
    obtain ⟨rfl, rfl⟩ := h
    exact ⟨cur, rest⟩
theorem RowIs.of {α : Type} {c : α → List Value} {sz : Nat} {e : TypeId} {g nm cap : Nat} {W : World} {R : List α} {cur : Array Value} (hl : R.length = nm) (hc : ∀ x, (c x).length = sz) (h1 : W.heap[g]? = some (.cells cur e (0, 0))) (h2 : nm ≤ cap) (h3 : cap ≤ maxLen) (h4 : cur.size = cap * sz) (h5 : cur.toList.take (nm * sz) = R.flatMap c) : RowIs c sz e g nm cap W R :=
  ⟨hl, by rw [flat_len hc, hl], .inr ⟨g, cap, cur, rfl, Nat.zero_le _, h1, h2, h3, h4, h5⟩⟩
theorem RowIs.same {α : Type} {c : α → List Value} {sz : Nat} {e : TypeId} {g nm cap : Nat} {W W' : World} {R : List α} (h : RowIs c sz e g nm cap W R) (hc : ∀ x, (c x).length = sz) (hg : W'.heap[g]? = W.heap[g]?) : RowIs c sz e g nm cap W' R := by
  obtain ⟨cur, h1, h2, h3, h4, h5⟩ := h.whole
  exact RowIs.of h.len hc (hg.trans h1) h2 h3 h4 h5

theorem run_copy_k {P : Program} (w : World) (dT sT ty elem : TypeId) (sz g o dLen dCap : Nat) (a : Addr) (sLen sCap : Nat) (cur : Array Value) (t : TypeId) (cs : List Value)
    (hu : P.underlying dT = some (.slice elem)) (hs : (P.info? elem).map (·.size) = some sz)
    (hg : w.heap[g]? = some (.cells cur t (0, 0))) (hn : cs.length = Nat.min sLen dLen * sz)
    (hsrc : ∀ j v, cs[j]? = some v → w.cell? (a.add j) = some v) (hfit : o + cs.length ≤ cur.size) (h1 : ∀ v ∈ cs, v.oneCell' = true) :
    (Builtin.copy_ #[dT, sT] ty #[.slice (some ⟨g, o, none⟩) dLen dCap, .slice (some a) sLen sCap]).run P w =
      .ok (goInt (Nat.min sLen dLen)) (w.setRow g (cur.toList.take o ++ cs ++ cur.toList.drop (o + cs.length)).toArray) := by
  have hl := run_loadCells_list (P := P) w a cs hsrc
  have hst := run_storeCells_at P g o t cs 0 cur w hg (by simpa using hfit) h1
  cases hq : P.info? elem with
  | none => simp [hq] at hs
  | some i =>
    have hi : i.size = sz := by simpa [hq] using hs
    simp [Builtin.copy_, run_underlying hu, Builtin.lenOf, Builtin.firstCells, sizeOf, typeInfo, hq, hi, ← hn, hl, hst]
theorem run_copy_zero {P : Program} (w : World) (dT sT ty elem : TypeId) (sz : Nat) (d a : Option Addr) (dLen dCap sLen sCap : Nat) (hu : P.underlying dT = some (.slice elem)) (hs : (P.info? elem).map (·.size) = some sz) (hn : Nat.min sLen dLen = 0) :
    (Builtin.copy_ #[dT, sT] ty #[.slice d dLen dCap, .slice a sLen sCap]).run P w = .ok (goInt 0) w := by
  cases hq : P.info? elem with
  | none => simp [hq] at hs
  | some i =>
    have hl : ∀ (x : Addr), (loadCells x 0).run P w = .ok #[] w := fun x => by simpa using run_loadCells_list (P := P) w x [] (by simp)
    cases d <;> cases a <;> simp [Builtin.copy_, run_underlying hu, Builtin.lenOf, Builtin.firstCells, sizeOf, typeInfo, hq, hn, storeCells, hl]

/-- A list in a slice: empty, or lying somewhere. -/
def InList {α : Type} (c : α → List Value) (W : World) (p : Option Addr) (ys : List α) : Prop :=
  ys = [] ∨ ∃ gl off, p = some ⟨gl, off, none⟩ ∧ ∀ j u, (ys.flatMap c)[j]? = some u → W.cell? ⟨gl, off + j, none⟩ = some u
theorem InList.below {α : Type} {c : α → List Value} {W W' : World} {p : Option Addr} {ys : List α} (h : InList c W p ys) (hb : Below W.heap.size W W') : InList c W' p ys := by
  rcases h with h | ⟨gl, off, e, h⟩
  · exact .inl h
  · exact .inr ⟨gl, off, e, fun j u hu => kc' hb (h j u hu)⟩
theorem run_append_zero {P : Program} (w : World) (t ty e : TypeId) (i : TypeInfo) (size base : Nat) (ht : P.underlying t = some (.slice e)) (hi : P.info? e = some i)
    (v : Value) (n : Nat) (xs : List Value) (hown : w.ownsRow base e size v n xs) (a : Option Addr) (c : Nat) :
    (Builtin.append_ #[t, t] ty #[v, .slice a 0 c]).run P w = .ok v w := by
  have hl : ∀ (x : Addr), (loadCells x 0).run P w = .ok #[] w := fun x => by simpa using run_loadCells_list (P := P) w x [] (by simp)
  rcases hown.2 with ⟨rfl, rfl⟩ | ⟨g, cap, cur, rfl, _, _, hnc, _⟩
  · cases a <;> simp [Builtin.append_, run_underlying ht, sizeOf, typeInfo, hi, Builtin.lenOf, Builtin.firstCells, hl]
  · cases a <;> simp [Builtin.append_, run_underlying ht, sizeOf, typeInfo, hi, Builtin.lenOf, Builtin.firstCells, hnc, storeCells, hl]
theorem exec_append {P : Program} {o : Oper} {a : Act} {w w' : World} (s x : Operand) (t : TypeId) (ho : o.op = .call { callee := .builtin .append, args := #[s, x], argTypes := #[t, t] })
    {v1 v2 v' : Value} (hs : a.eval s = v1) (hx : a.eval x = v2) (hr : (Builtin.append_ #[t, t] o.type #[v1, v2]).run P w = .ok v' w') : (execOp a.eval o).run P w = .ok (.value v') w' := by
  simp [execOp, ho, resolve, invoke, builtin, hs, hx, hr, Result.andThen]
theorem step_append_run {P : Program} {ops : Array Oper} {o : Oper} {a : Act} {w w' : World} {K : Act → World → Prop} {Q : Exit → Act → World → Prop} {E : Prop}
    (hg : o.guard = none) (s x : Operand) (t : TypeId) (hop : o.op = Op.call { callee := Callee.builtin Builtin.append, args := #[s, x], argTypes := #[t, t] })
    {v1 v2 v' : Value} (hs : a.eval s = v1) (hx : a.eval x = v2) (hr : (Builtin.append_ #[t, t] o.type #[v1, v2]).run P w = .ok v' w') (hK : K (a.put o.dst v') w') :
    if Region.wanted o (yielded ops a.tmps) = true then Oper.wp P o a w K Q else E := by
  have hw : Region.wanted o (yielded ops a.tmps) = true := by simp [Region.wanted, hg]
  rw [if_pos hw]
  unfold Oper.wp
  rw [exec_append s x t hop hs hx hr]
  exact hK
theorem run_append_k {P : Program} (w : World) (T ty elem : TypeId) (i0 : TypeInfo) (sz g n cap m c : Nat) (a : Addr) (cur : Array Value) (t : TypeId) (news : List Value)
    (hu : P.underlying T = some (.slice elem)) (hi : P.info? elem = some i0) (hs : i0.size = sz) (hg : w.heap[g]? = some (.cells cur t (0, 0))) (hroom : n + m ≤ cap) (hn : news.length = m * sz)
    (hsrc : ∀ j v, news[j]? = some v → w.cell? (a.add j) = some v) (hfit : n * sz + news.length ≤ cur.size) (h1 : ∀ v ∈ news, v.oneCell' = true) :
    (Builtin.append_ #[T, T] ty #[.slice (some ⟨g, 0, none⟩) n cap, .slice (some a) m c]).run P w =
      .ok (.slice (some ⟨g, 0, none⟩) (n + m) cap) (w.setRow g (cur.toList.take (n * sz) ++ news ++ cur.toList.drop (n * sz + news.length)).toArray) := by
  subst hs
  have hfc := run_firstCells_some (P := P) w i0.size m a m c news hn hsrc
  have hst := run_storeCells_at P g (n * i0.size) t news 0 cur w hg (by simpa using hfit) h1
  simp only [Nat.add_zero] at hst
  simp [Builtin.append_, run_underlying hu, sizeOf, typeInfo, hi, Builtin.lenOf, hroom, hfc, Addr.add_lit, hst]
theorem wpList_append_run {P : Program} {ops : Array Oper} {rest : List Oper} {o : Oper} {a : Act} {w w' : World} {Q : Exit → Act → World → Prop} {v1 v2 v' : Value} (hgd : o.guard = none) (s x : Operand) (t : TypeId)
    (ho : o.op = .call { callee := .builtin .append, args := #[s, x], argTypes := #[t, t] }) (hs : a.eval s = v1) (hx : a.eval x = v2) (hr : (Builtin.append_ #[t, t] o.type #[v1, v2]).run P w = .ok v' w')
    (h : wpList P ops Q rest (a.put o.dst v') w') : wpList P ops Q (o :: rest) a w :=
  wpList_plain hgd fun _ hK => by
    unfold Oper.wp
    rw [exec_append s x t ho hs hx hr]
    exact hK _ _ h
end Go.Proofs.YtikpbfghdiomgaaDoor
