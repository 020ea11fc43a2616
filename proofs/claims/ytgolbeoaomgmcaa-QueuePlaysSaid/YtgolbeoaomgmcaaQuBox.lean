/-
  Boxes of one cell, what a round keeps, and a range statement whose round's act is told by the round alone. Conditions: those that each theorem states.
-/
import Derived.Test.YtgolbeoaomgmcaaQuAll
namespace Go.Proofs.Ytgolbeoaomgmcaa
open Go.RowKit Go.Shelf Go.Lib Go.Sort Qu

/-- A box of one cell. -/
abbrev Box (W : World) (k : Nat) (v : Value) (t : TypeId) : Prop := W.heap[k]? = some (.cells #[v] t (0, 0))
theorem Box.lt {W : World} {k : Nat} {v : Value} {t : TypeId} (h : Box W k v t) : k < W.heap.size := (Array.getElem?_eq_some_iff.1 h).1
theorem Box.cell {W : World} {k : Nat} {v : Value} {t : TypeId} (h : Box W k v t) : W.cell? ⟨k, 0, none⟩ = some v := by unfold World.cell?; rw [h]; rfl
theorem Box.frozen {W : World} {k : Nat} {v : Value} {t : TypeId} (h : Box W k v t) : W.frozen? ⟨k, 0, none⟩ = false := by simp [World.frozen?, h]
theorem Box.below {W W' : World} {k : Nat} {v : Value} {t : TypeId} (h : Box W k v t) (hb : Below W.heap.size W W') : Box W' k v t := (hb.block k h.lt).trans h
theorem Box.new (W : World) (v : Value) (t : TypeId) : Box (W.alloc (.cells #[v] t)) W.heap.size v t := World.alloc_heap_new W _
theorem Box.set {W : World} {k : Nat} {v : Value} {t : TypeId} (h : Box W k v t) (u : Value) : Box (W.setCell ⟨k, 0, none⟩ u) k u t := heap_setCell_same _ k 0 _ _ _ h
theorem Box.set_other {W : World} {k j : Nat} {v u : Value} {t : TypeId} (h : Box W k v t) (hne : k ≠ j) : Box (W.setCell ⟨j, 0, none⟩ u) k v t := (heap_setCell_other W ⟨j, 0, none⟩ k u hne).trans h
theorem Box.ne {W : World} {k j : Nat} {v u : Value} {t s : TypeId} (h : Box W k v t) (h' : Box W j u s) (hts : t ≠ s) : k ≠ j := by
  rintro rfl
  have e := h.symm.trans h'
  simp at e
  exact hts e.2
theorem Own.other {B : Nat} {W : World} {q : Nat} {p : Option Addr} {k : Nat} {xs : List Int} (h : Own B W q p k xs) {j : Nat} {v : Value} {t : TypeId} (hj : Box W j v t) (h2 : t ≠ 3) : j ≠ q ∧ blk p ≠ some j := by
  obtain ⟨R, f, hq⟩ := h.que
  refine ⟨?_, fun e => ?_⟩
  · rintro rfl
    have := hj.symm.trans hq.box
    simp at this
  · have := hj.symm.trans (hq.at e).2
    simp [rowO] at this
    exact h2 this.2
theorem Box.left {W W' : World} {B q k j : Nat} {p : Option Addr} {xs : List Int} {v : Value} {t : TypeId} (h : Box W j v t) (ho : Own B W q p k xs) (hl : Touch q (blk p) W W') (h2 : t ≠ 3) : Box W' j v t := by
  obtain ⟨k1, k2⟩ := ho.other h h2
  exact (hl.block j h.lt k1 (Ne.symm k2)).trans h
theorem below_set {B : Nat} {a w : World} {k : Nat} (h : Below B a w) (hk : B ≤ k) (u : Value) : Below B a (w.setCell ⟨k, 0, none⟩ u) :=
  ⟨h.os, h.tape, h.output, by simpa using h.size, fun j hj => (heap_setCell_other _ ⟨k, 0, none⟩ j u (by show j ≠ k; omega)).trans (h.block j hj)⟩
theorem from_set {B k : Nat} (W : World) (u : Value) (hk : k < B) : KeepsFrom B W (W.setCell ⟨k, 0, none⟩ u) :=
  ⟨by simp, fun j o hj h _ => (heap_setCell_other _ ⟨k, 0, none⟩ j u (by show j ≠ k; omega)).trans h⟩
theorem Own.put {B : Nat} {W : World} {q : Nat} {p : Option Addr} {k : Nat} {xs : List Int} {j : Nat} {v : Value} {t : TypeId} (h : Own B W q p k xs) (hj : Box W j v t) (h2 : t ≠ 3) (u : Value) : Own B (W.setCell ⟨j, 0, none⟩ u) q p k xs := by
  obtain ⟨k1, k2⟩ := h.other hj h2
  have hh : ∀ i, i ≠ j → (W.setCell ⟨j, 0, none⟩ u).heap[i]? = W.heap[i]? := fun i hi => heap_setCell_other W ⟨j, 0, none⟩ i u hi
  obtain ⟨R, f, hq⟩ := h.que
  exact ⟨⟨R, f, hq.same (hh _ (Ne.symm k1)) fun g e => hh _ fun e2 => k2 (by rw [← e2]; exact e)⟩, h.b1, h.b2⟩

/-- All but one block is kept. -/
structure KeepsB (g : Nat) (W W' : World) : Prop where
  os : W'.os = W.os
  tape : W'.tape = W.tape
  output : W'.output = W.output
  size : W.heap.size ≤ W'.heap.size
  block : ∀ j, j < W.heap.size → j ≠ g → W'.heap[j]? = W.heap[j]?
theorem KeepsB.box {g : Nat} {W W' : World} (h : KeepsB g W W') {k : Nat} {v : Value} {t : TypeId} (hk : Box W k v t) (hne : k ≠ g) : Box W' k v t := (h.block k hk.lt hne).trans hk
theorem KeepsB.own {A C W : World} {g B : Nat} {row : Option Nat} (h : KeepsB g W A) (hgr : A.grownBy C row) (hr : ∀ r, row = some r → B ≤ r ∧ ∃ o : Obj, A.heap[r]? = some o ∧ o.isCells = false) (hB : W.heap.size ≤ B) : KeepsB g W C :=
  ⟨hgr.os.trans h.os, hgr.tape.trans h.tape, hgr.output.trans h.output, Nat.le_trans h.size hgr.size, fun j hj h1 => (hgr.block j (by have := h.size; omega) (fun e => by have := (hr j e.symm).1; omega)).trans (h.block j hj h1)⟩
theorem KeepsB.inner {A C W : World} {g lo hi : Nat} (h : KeepsB g W A) (hin : Inner lo hi A C) (hlo : W.heap.size ≤ lo) : KeepsB g W C :=
  ⟨hin.os.trans h.os, hin.tape.trans h.tape, hin.output.trans h.output, Nat.le_trans h.size hin.size, fun j hj h1 => (hin.block j (by have := h.size; omega) (by omega)).trans (h.block j hj h1)⟩
theorem KeepsB.on {W A C : World} {g : Nat} (h : KeepsB g W A) (k : Below A.heap.size A C) : KeepsB g W C :=
  ⟨k.os.trans h.os, k.tape.trans h.tape, k.output.trans h.output, Nat.le_trans h.size k.size, fun j hj h1 => (k.block j (by have := h.size; omega)).trans (h.block j hj h1)⟩
theorem KeepsB.set {W A : World} {g : Nat} (h : KeepsB g W A) (u : Value) : KeepsB g W (A.setCell ⟨g, 0, none⟩ u) :=
  ⟨h.os, h.tape, h.output, by simpa using h.size, fun j hj h1 => (heap_setCell_other _ ⟨g, 0, none⟩ j u h1).trans (h.block j hj h1)⟩
theorem KeepsB.below {W A w : World} {g B : Nat} (h : KeepsB g W A) (hw : Below B w W) (hg : B ≤ g) (hB : B ≤ W.heap.size) : Below B w A :=
  ⟨h.os.trans hw.os, h.tape.trans hw.tape, h.output.trans hw.output, Nat.le_trans hw.size h.size, fun j hj => (h.block j (by omega) (by omega)).trans (hw.block j hj)⟩
theorem Box.own {A C : World} {B k : Nat} {v : Value} {t : TypeId} {row : Option Nat} (h : Box A k v t) (hgr : A.grownBy C row) (hr : ∀ r, row = some r → B ≤ r ∧ ∃ o : Obj, A.heap[r]? = some o ∧ o.isCells = false) (hk : k < B) : Box C k v t :=
  (hgr.block k h.lt (fun e => by have := (hr k e.symm).1; omega)).trans h
theorem kp_set {old : Nat → Prop} {lo hi k : Nat} (W : World) (u : Value) (h1 : ¬ old k) (h2 : k < lo) : Kp old lo hi W (W.setCell ⟨k, 0, none⟩ u) :=
  ⟨by simp, fun b o hs hb _ => (heap_setCell_other _ ⟨k, 0, none⟩ b u (by
    rintro rfl
    rcases hs with hs | hs
    · exact h1 hs
    · omega)).trans hb⟩

/-- A RANGE STATEMENT, its round's act told by the round. -/
theorem range_lawP1 {g : Operand} {ps : Array Tmp} {assign body : Code} {Q : Exit → Act → World → Prop} {a : Act} {w : World} {gf : Nat} {lb : Array Value}
    (hg : a.eval g = .func (.func gf) #[] lb) (eg : ∀ args w, (callFunc gf args).run Try.prog w = .ok (.enter gf args) w)
    {N : Nat} {ar : Nat → Array Value} {old : Nat → Prop} (hseq : SeqP gf lb N ar old w) (hps : ∀ k, (ar k).size = ps.size)
    (I : Nat → Nat → World → Prop) (Ix : Code → Nat → Nat → World → Prop) (hI : ∀ hi, OwnFrom w.heap.size (I hi)) (hIx : ∀ c hi, OwnFrom w.heap.size (Ix c hi))
    (hIn : ∀ hi k A C, w.heap.size + 2 ≤ hi → hi ≤ A.heap.size → I hi k A → Inner (w.heap.size + 2) hi A C → I hi k C)
    (h0 : ∀ W', Below w.heap.size w W' → w.heap.size + 2 ≤ W'.heap.size → I W'.heap.size 0 W')
    (af : Nat → Act)
    (hassign : ∀ (l hi k : Nat) (W : World) (K : Act → World → Prop), w.heap.size + 2 ≤ hi → hi ≤ W.heap.size → I hi k W → k < N → (∀ W', Below W.heap.size W W' → I hi k W' → K (af k) W') →
      assign.wpIn (Fence.wide.inRound l) 0 Try.prog (Exit.then K (fun _ _ _ => False)) { tmps := (ps.zip (ar k)).foldl (fun t (p, v) => t.setIfInBounds p v) a.tmps, defers := [] } W)
    (hbody : ∀ (l hi k : Nat) (W : World), w.heap.size + 2 ≤ hi → hi ≤ W.heap.size → I hi k W → k < N →
      body.wpIn (Fence.wide.inRound l) 0 Try.prog (AfterP old (w.heap.size + 2) w.heap.size hi I Ix (k + 1) W) (af k) W)
    (hdone : ∀ (D hi : Nat) (W : World), w.heap.size ≤ D → w.heap.size + 2 ≤ hi → I hi N W → W.heap[D]? = some (.deferred (some [])) → Q .normal { a with defers := { target := .collected D, args := #[] } :: a.defers } W)
    (hstop : ∀ (D hi : Nat) (c : Code) (k : Nat) (W : World), w.heap.size ≤ D → w.heap.size + 2 ≤ hi → k ≤ N → Ix c hi k W → W.heap[D]? = some (.deferred (some [])) → c.wpIn Fence.wide 0 Try.prog Q { a with defers := { target := .collected D, args := #[] } :: a.defers } W) :
    (Code.rangeFunc g ps assign body).wpIn Fence.wide 0 Try.prog Q a w :=
  range_lawP hg eg hseq hps I Ix hI hIx hIn h0 (fun _ k a' _ => a' = af k) (fun hi k a' s A C row h _ _ => h)
    (fun l hi k W K h1 h2 h3 h4 hK => hassign l hi k W K h1 h2 h3 h4 fun W' hb hi' => hK _ W' hb hi' rfl)
    (fun l hi k a' W h1 h2 h3 h4 h5 => by subst h4; exact hbody l hi k W h1 h2 h3 h5) hdone hstop
end Go.Proofs.Ytgolbeoaomgmcaa
