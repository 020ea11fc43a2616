/-
  token's Scan over this seat's translation: what its loop holds. Conditions: those that each theorem states.
-/
import Derived.Test.YtikpbfghdiomgaaDoorT8S
import Derived.Test.YtikpbfghdiomgaaDoorT8F
namespace Go.Proofs.YtikpbfghdiomgaaDoor
open Go.RowKit Go.Shelf Go.Lib Go.Sort Tk
attribute [local go_sem] Oper.semAt_some

theorem infoTp : (Tryd.prog.info? 28).map (fun i => (i.zero, i.size, i.bytes)) = some (some (.agg #[.int .i64 0, .string ⟨#[]⟩, .int .i64 0, .int .i64 0]), 4, 40) := by kernel_rfl
def kX (s : ByteArray) (k : Nat) : Int := ((outX s k).1.kind : Int)
def sX (s : ByteArray) (k : Nat) : ByteArray := ⟨(outX s k).1.s.toArray⟩
def nX (s : ByteArray) (k : Nat) : Int := ((outX s k).1.n : Int)
def pX (s : ByteArray) (k : Nat) : Int := ((outX s k).1.p : Int)
def eX (s : ByteArray) (k : Nat) : Int := (outX s k).2
def arX (s : ByteArray) (k : Nat) : Array Value := #[.agg #[.int .i64 (kX s k), .string (sX s k), .int .i64 (nX s k), .int .i64 (pX s k)], .int .i64 (eX s k)]
theorem arX_eq (s : ByteArray) : (fun k => #[tokV (outX s k).1, .int .i64 (outX s k).2]) = arX s := rfl
abbrev objT (v : Value) : Obj := .cells #[v] 23 (0, 0)
abbrev objI (n : Int) : Obj := .cells #[.int .i64 n] 3 (0, 0)
abbrev objE (n : Int) : Obj := .cells #[.int .i64 n] 24 (0, 0)
theorem ownsRow_keep8 {W W' : World} {B n sz : Nat} {e : TypeId} {v : Value} {xs : List Value} (h : W.ownsRow B e sz v n xs) (hk : ∀ g, v.ownBlock = some g → W'.heap[g]? = W.heap[g]?) : W'.ownsRow B e sz v n xs := by
  refine ⟨h.1, ?_⟩
  rcases h.2 with h3 | ⟨g, cap, cur, e, hB, hg, rest⟩
  · exact .inl h3
  · exact .inr ⟨g, cap, cur, e, hB, (hk g (by rw [e]; rfl)).trans hg, rest⟩
theorem ownsRow_cells8 {W : World} {B n sz : Nat} {e : TypeId} {v : Value} {xs : List Value} {g : Nat} (h : W.ownsRow B e sz v n xs) (hg : v.ownBlock = some g) : ∃ cur, W.heap[g]? = some (.cells cur e (0, 0)) := by
  rcases h.2 with ⟨e2, _⟩ | ⟨g', cap, cur, e2, _, hg', _⟩
  · rw [e2] at hg; cases hg
  · rw [e2] at hg
    obtain rfl : g' = g := by simpa [Value.ownBlock] using hg
    exact ⟨cur, hg'⟩
theorem ownsRow_low {W : World} {B B' n sz : Nat} {e : TypeId} {v : Value} {xs : List Value} (h : W.ownsRow B e sz v n xs) (hB : B' ≤ B) : W.ownsRow B' e sz v n xs := by
  refine ⟨h.1, ?_⟩
  rcases h.2 with h3 | ⟨g, cap, cur, e, hb, rest⟩
  · exact .inl h3
  · exact .inr ⟨g, cap, cur, e, Nat.le_trans hB hb, rest⟩
theorem cell_one8 {W : World} {b : Nat} {v : Value} {t : TypeId} (h : W.heap[b]? = some (.cells #[v] t (0, 0))) : W.cell? ⟨b, 0, none⟩ = some v ∧ W.frozen? ⟨b, 0, none⟩ = false := ⟨(by unfold World.cell?; rw [h]; rfl), frozen_of_row _ b 0 _ _ h⟩
theorem leavesQ_of {Bv B lo hi : Nat} {A C : World} (chg : Nat → Prop) (hsz : A.heap.size ≤ C.heap.size) (hch : ∀ b, b < A.heap.size → ¬ chg b → C.heap[b]? = A.heap[b]?)
    (h1 : ∀ b, chg b → b ≠ Bv ∧ b ≠ 0 ∧ b ≠ 2) (h2 : ∀ b, chg b → ¬ (lo ≤ b ∧ b < hi)) (h3 : ∀ b o, chg b → A.heap[b]? = some o → o.isCells = true) : LeavesQ (safe8 Bv) B lo hi A C := by
  refine ⟨⟨hsz, fun b o hs hb => ?_⟩, fun b o hl hh hb _ => ?_, ⟨hsz, fun b o _ hb hc => ?_⟩⟩
  · refine (hch b (Array.getElem?_eq_some_iff.1 hb).1 fun hc => ?_).trans hb
    obtain ⟨k1, k2, k3⟩ := h1 b hc
    rcases hs.1 with e | e | e
    · exact k1 e
    · exact k2 e
    · exact k3 e
  · exact (hch b (Array.getElem?_eq_some_iff.1 hb).1 fun hc => h2 b hc ⟨hl, hh⟩).trans hb
  · refine (hch b (Array.getElem?_eq_some_iff.1 hb).1 fun k => ?_).trans hb
    rw [h3 b o k hb] at hc
    cases hc
/-- What Scan's loop holds: its results, its words; b is the first of its boxes, m a bound of the row's block. -/
structure ScK (w : World) (b m : Nat) (ws : List Tk.W) (k : Nat) (v : Value) (W : World) : Prop where
  below : Below w.heap.size w W
  c2 : W.heap[b]? = some (objT (.slice none 0 0))
  c3 : W.heap[b + 1]? = some (objI 0)
  c4 : W.heap[b + 2]? = some (objE 0)
  c5 : W.heap[b + 3]? = some (objT v)
  row : W.ownsRow (b + 5) 28 4 v (ws.take k).length ((ws.take k).flatMap cW)
  far : ∀ g, v.ownBlock = some g → g < m
theorem ScK.mark {w : World} {b m m' : Nat} {ws : List Tk.W} {k : Nat} {v : Value} {W : World} (h : ScK w b m ws k v W) (hm : W.heap.size ≤ m') : ScK w b m' ws k v W := ⟨h.below, h.c2, h.c3, h.c4, h.c5, h.row, fun g e => by have := (h.row.lt g e).2; omega⟩
theorem ScK.keep {w A C : World} {b m : Nat} {ws : List Tk.W} {k : Nat} {v : Value} (h : ScK w b m ws k v A) (hb : Below A.heap.size A C) : ScK w b m ws k v C := by
  have kb : ∀ {j : Nat} {o : Obj}, A.heap[j]? = some o → C.heap[j]? = some o := fun h => (hb.block _ (Array.getElem?_eq_some_iff.1 h).1).trans h
  exact ⟨belowT8 h.below hb, kb h.c2, kb h.c3, kb h.c4, kb h.c5, ownsRow_keep8 h.row fun g e => hb.block g (h.row.lt g e).2, h.far⟩
theorem ScK.own {w : World} {b m B : Nat} {ws : List Tk.W} {k : Nat} {v : Value} {A C : World} {row : Option Nat} (h : ScK w b m ws k v A) (hB : w.heap.size ≤ B) (hgr : A.grownBy C row) (hr : ∀ r, row = some r → B ≤ r ∧ ∃ o : Obj, A.heap[r]? = some o ∧ o.isCells = false) : ScK w b m ws k v C := by
  have hk : ∀ (b : Nat) (cur : Array Value) (t : TypeId) (fr : Nat × Nat), A.heap[b]? = some (Obj.cells cur t fr) → C.heap[b]? = A.heap[b]? := fun b cur t fr hb => hgr.block b (Array.getElem?_eq_some_iff.1 hb).1 fun e => by
    obtain ⟨_, o, ho, hc⟩ := hr b e.symm
    rw [hb] at ho
    cases ho
    cases hc
  refine ⟨⟨hgr.os.trans h.below.os, hgr.tape.trans h.below.tape, hgr.output.trans h.below.output, Nat.le_trans h.below.size hgr.size, fun j hj => (hgr.block j (by have := h.below.size; omega) fun e => by have := (hr j e.symm).1; omega).trans (h.below.block j hj)⟩, (hk _ _ _ _ h.c2).trans h.c2, (hk _ _ _ _ h.c3).trans h.c3, (hk _ _ _ _ h.c4).trans h.c4, (hk _ _ _ _ h.c5).trans h.c5, ownsRow_keep8 h.row fun g e => ?_, h.far⟩
  obtain ⟨cur, hc⟩ := ownsRow_cells8 h.row e
  exact hk _ _ _ _ hc
/-- The row's block is none of the boxes. -/
theorem ScK.ne {w : World} {b m : Nat} {ws : List Tk.W} {k : Nat} {v : Value} {W : World} (h : ScK w b m ws k v W) : ∀ g, v.ownBlock = some g → b + 5 ≤ g := fun g e => (h.row.lt g e).1
/-- What Scan lays in a round: a word more. -/
theorem ScK.next {w Wq w8 : World} {b lo hi : Nat} {ws : List Tk.W} {k : Nat} {u : Tk.W} {v v' : Value} {o : Obj} (hj : ScK w b lo ws k v Wq) (hb : w.heap.size ≤ b) (hu : ws[k]? = some u) (hlo : b + 5 ≤ lo) (hlh : lo ≤ hi) (hhi : hi ≤ Wq.heap.size)
    (_hm1 : 0 < w.heap.size) (_hm2 : 2 < w.heap.size)
    (hg : (Wq.alloc o).grownBy w8 v.ownBlock) (hown : w8.ownsRow (b + 5) 28 4 v' ((ws.take k).length + 1) ((ws.take k).flatMap cW ++ cW u)) (_hloc : v'.ownBlock = v.ownBlock ∨ v'.ownBlock = some (Wq.alloc o).heap.size) :
    LeavesQ (safe8 (b + 4)) (b + 5) lo hi Wq (w8.setCell ⟨b + 3, 0, none⟩ v') ∧ ∃ m v, ScK w b m ws (k + 1) v (w8.setCell ⟨b + 3, 0, none⟩ v') := by
  have hh : ∀ j, j ≠ b + 3 → (w8.setCell ⟨b + 3, 0, none⟩ v').heap[j]? = w8.heap[j]? := fun j hj => heap_setCell_other _ ⟨b + 3, 0, none⟩ j _ hj
  have h8 : ∀ j, j < Wq.heap.size → some j ≠ v.ownBlock → w8.heap[j]? = Wq.heap[j]? := fun j hj hne => (hg.block j (by rw [World.size_alloc]; omega) hne).trans (Below.heap_alloc _ _ _ hj)
  have hsz : Wq.heap.size ≤ w8.heap.size := by have := hg.size; rw [World.size_alloc] at this; omega
  have hne := hj.ne
  have hfar := hj.far
  have hkeep : ∀ j, j < Wq.heap.size → some j ≠ v.ownBlock → j ≠ b + 3 → (w8.setCell ⟨b + 3, 0, none⟩ v').heap[j]? = Wq.heap[j]? := fun j h1 h2 h3 => (hh j h3).trans (h8 j h1 h2)
  have hne' : ∀ j, j < b + 5 → some j ≠ v.ownBlock := fun j hj e => by have := hne j e.symm; omega
  have l5 := (Array.getElem?_eq_some_iff.1 hj.c5).1
  have l2 := (Array.getElem?_eq_some_iff.1 hj.c2).1
  have l3 := (Array.getElem?_eq_some_iff.1 hj.c3).1
  have l4 := (Array.getElem?_eq_some_iff.1 hj.c4).1
  have hnew : ∀ g, v'.ownBlock = some g → g < w8.heap.size := fun g e => (hown.lt g e).2
  refine ⟨leavesQ_of (fun j => some j = v.ownBlock ∨ j = b + 3) (by simpa using hsz) (fun j h1 h2 => hkeep j h1 (fun e => h2 (.inl e)) (fun e => h2 (.inr e))) (fun j h => ?_) (fun j h => ?_) (fun j o h ho => ?_), w8.heap.size, v', ⟨?_, ?_, ?_, ?_, ?_, ?_, hnew⟩⟩
  · rcases h with h | h
    · have := hne j h.symm; omega
    · omega
  · rcases h with h | h
    · have := hfar j h.symm; omega
    · omega
  · rcases h with h | h
    · obtain ⟨cur, hc⟩ := ownsRow_cells8 hj.row h.symm
      rw [hc] at ho
      cases ho
      rfl
    · rw [h, hj.c5] at ho
      cases ho
      rfl
  · have hb0 := hj.below
    exact ⟨hg.os.trans hb0.os, hg.tape.trans hb0.tape, hg.output.trans hb0.output, by have := hb0.size; simp; omega, fun j hjj => (hkeep j (by have := hb0.size; omega) (hne' j (by omega)) (by omega)).trans (hb0.block j hjj)⟩
  · exact (hkeep b l2 (hne' _ (by omega)) (by omega)).trans hj.c2
  · exact (hkeep _ l3 (hne' _ (by omega)) (by omega)).trans hj.c3
  · exact (hkeep _ l4 (hne' _ (by omega)) (by omega)).trans hj.c4
  · exact heap_setCell_same w8 (b + 3) 0 _ _ v' ((h8 _ l5 (hne' _ (by omega))).trans hj.c5)
  · have e : ws.take (k + 1) = ws.take k ++ [u] := by rw [List.take_add_one, hu]; rfl
    rw [e, List.length_append, List.flatMap_append, ← show cW u = [u].flatMap cW from by simp]
    refine ownsRow_keep8 hown fun g e2 => hh g ?_
    have := (hown.lt g e2).1
    omega
/-- What Scan answers at an error. -/
structure ScE (w : World) (b : Nat) (p e : Int) (W : World) : Prop where
  below : Below w.heap.size w W
  c2 : W.heap[b]? = some (objT (.slice none 0 0))
  c3 : W.heap[b + 1]? = some (objI p)
  c4 : W.heap[b + 2]? = some (objE e)
theorem ScE.own {w : World} {b B : Nat} {p e : Int} {A C : World} {row : Option Nat} (h : ScE w b p e A) (hB : w.heap.size ≤ B) (hgr : A.grownBy C row) (hr : ∀ r, row = some r → B ≤ r ∧ ∃ o : Obj, A.heap[r]? = some o ∧ o.isCells = false) : ScE w b p e C := by
  have hk : ∀ (b : Nat) (cur : Array Value) (t : TypeId) (fr : Nat × Nat), A.heap[b]? = some (Obj.cells cur t fr) → C.heap[b]? = A.heap[b]? := fun b cur t fr hb => hgr.block b (Array.getElem?_eq_some_iff.1 hb).1 fun e => by
    obtain ⟨_, o, ho, hc⟩ := hr b e.symm
    rw [hb] at ho
    cases ho
    cases hc
  exact ⟨⟨hgr.os.trans h.below.os, hgr.tape.trans h.below.tape, hgr.output.trans h.below.output, Nat.le_trans h.below.size hgr.size, fun j hj => (hgr.block j (by have := h.below.size; omega) fun e => by have := (hr j e.symm).1; omega).trans (h.below.block j hj)⟩, (hk _ _ _ _ h.c2).trans h.c2, (hk _ _ _ _ h.c3).trans h.c3, (hk _ _ _ _ h.c4).trans h.c4⟩
/-- What Scan lays where it stops. -/
theorem ScK.stop {w Wq : World} {b lo hi m : Nat} {ws : List Tk.W} {k : Nat} {v : Value} (hj : ScK w b m ws k v Wq) (hb : w.heap.size ≤ b) (hlo : b + 5 ≤ lo) (_hm1 : 0 < w.heap.size) (_hm2 : 2 < w.heap.size) (p e : Int) :
    LeavesQ (safe8 (b + 4)) (b + 5) lo hi Wq (((Wq.drew.setCell ⟨b, 0, none⟩ (.slice none 0 0)).setCell ⟨b + 1, 0, none⟩ (.int .i64 p)).setCell ⟨b + 2, 0, none⟩ (.int .i64 e)) ∧
    ScE w b p e (((Wq.drew.setCell ⟨b, 0, none⟩ (.slice none 0 0)).setCell ⟨b + 1, 0, none⟩ (.int .i64 p)).setCell ⟨b + 2, 0, none⟩ (.int .i64 e)) := by
  have hh : ∀ j, j ≠ b → j ≠ b + 1 → j ≠ b + 2 → (((Wq.drew.setCell ⟨b, 0, none⟩ (.slice none 0 0)).setCell ⟨b + 1, 0, none⟩ (.int .i64 p)).setCell ⟨b + 2, 0, none⟩ (.int .i64 e)).heap[j]? = Wq.heap[j]? := fun j h1 h2 h3 =>
    ((heap_setCell_other _ ⟨b + 2, 0, none⟩ j _ h3).trans (heap_setCell_other _ ⟨b + 1, 0, none⟩ j _ h2)).trans (heap_setCell_other _ ⟨b, 0, none⟩ j _ h1)
  refine ⟨leavesQ_of (fun j => j = b ∨ j = b + 1 ∨ j = b + 2) (by simp) (fun j _ h2 => hh j (fun e => h2 (.inl e)) (fun e => h2 (.inr (.inl e))) (fun e => h2 (.inr (.inr e)))) (fun j h => ?_) (fun j h => ?_) (fun j o h ho => ?_), ⟨?_, ?_, ?_, ?_⟩⟩
  · omega
  · omega
  · rcases h with rfl | rfl | rfl
    · rw [hj.c2] at ho; cases ho; rfl
    · rw [hj.c3] at ho; cases ho; rfl
    · rw [hj.c4] at ho; cases ho; rfl
  · have hb0 := hj.below
    exact ⟨hb0.os, hb0.tape, hb0.output, by simpa using hb0.size, fun j hjj => (hh j (by omega) (by omega) (by omega)).trans (hb0.block j hjj)⟩
  · exact ((heap_setCell_other _ ⟨b + 2, 0, none⟩ b _ (by show b ≠ b + 2; omega)).trans (heap_setCell_other _ ⟨b + 1, 0, none⟩ b _ (by show b ≠ b + 1; omega))).trans (heap_setCell_same _ b 0 _ _ _ hj.c2)
  · exact (heap_setCell_other _ ⟨b + 2, 0, none⟩ (b + 1) _ (by show b + 1 ≠ b + 2; omega)).trans (heap_setCell_same _ (b + 1) 0 _ _ _ ((heap_setCell_other _ ⟨b, 0, none⟩ (b + 1) _ (by show b + 1 ≠ b; omega)).trans hj.c3))
  · exact heap_setCell_same _ (b + 2) 0 _ _ _ (((heap_setCell_other _ ⟨b + 1, 0, none⟩ (b + 2) _ (by show b + 2 ≠ b + 1; omega)).trans (heap_setCell_other _ ⟨b, 0, none⟩ (b + 2) _ (by show b + 2 ≠ b; omega))).trans hj.c4)
end Go.Proofs.YtikpbfghdiomgaaDoor
