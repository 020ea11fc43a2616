/-
  slices.AppendSeq over this seat's translation: onto nil, whatever values an iterator hands out. Conditions: those that each theorem states.
-/
import Derived.Test.YtbgpipdbnjoeeaaDoorSeqD
import Derived.Maps.OwnIn
namespace Go.Proofs.YtbgpipdbnjoeeaaDoor
open Go.RowKit Go.Shelf Go.ChangeShapes Go.WideShapes Go.ChangeAt Go.Deep Go.Maps
attribute [local go_sem] Oper.semAt_some

/-- What is apart from the list that stands in the box Bs. -/
def safeO (Bs : Nat) (W : World) (b : Nat) (o : Obj) : Prop := o.isCells = true ∧ b ≠ Bs ∧ ∃ v, W.cell? ⟨Bs, 0, none⟩ = some v ∧ v.ownBlock ≠ some b ∧ ∀ g, v.ownBlock = some g → g < W.heap.size
theorem lt_of_cell0 {W : World} {b o : Nat} {v : Value} (h : W.cell? ⟨b, o, none⟩ = some v) : ∃ u : Obj, W.heap[b]? = some u ∧ u.isCells = true := by
  unfold World.cell? at h
  cases hu : W.heap[b]? with
  | none => rw [hu] at h; cases h
  | some u => rw [hu] at h; refine ⟨u, rfl, ?_⟩; cases u <;> first | rfl | (simp at h)
theorem safeO_safe (Bs : Nat) : Safe (safeO Bs) (Bs + 1) := by
  refine ⟨fun W b o h => h.1, ?_, ?_⟩
  · rintro W W' row b o hB hg hr ⟨h1, h2, v, h3, h4, h5⟩ hb
    refine ⟨h1, h2, v, ?_, h4, fun g e => Nat.lt_of_lt_of_le (h5 g e) hg.size⟩
    obtain ⟨u, hu, huc⟩ := lt_of_cell0 h3
    rw [← h3]
    refine World.cell?_of_block (hg.block Bs (by omega) fun e => ?_)
    obtain ⟨u', hu', hc'⟩ := hr Bs e.symm
    rw [hu] at hu'
    cases hu'
    rw [huc] at hc'
    cases hc'
  · rintro W W' b o b0 o0 hB ⟨h1, h2, v, h3, h4, h5⟩ hb0 hbl hge hb ho
    refine ⟨ho, by omega, v, ?_, fun e => ?_, fun g e => Nat.lt_of_lt_of_le (h5 g e) hbl.size⟩
    · rw [← h3]
      exact World.cell?_of_block (hbl.block Bs (by omega))
    · have := h5 b e
      omega

/-- The list in the box: its row, and what it leads to. -/
def Got (B Bs : Nat) (w : World) (q : List XV) (W : World) : Prop :=
  ∃ v, W.heap[Bs]? = some (.cells #[v] 22 (0, 0)) ∧ W.ownsRow B 24 4 v q.length (cells4 q) ∧ (∀ x ∈ q, VT.InS (safeO Bs) W x.1 x.2) ∧ Below w.heap.size w W
theorem row_ne {W : World} {B Bs n : Nat} {v u : Value} {xs : List Value} (h : W.ownsRow B 24 4 v n xs) (hb : W.heap[Bs]? = some (.cells #[u] 22 (0, 0))) : v.ownBlock ≠ some Bs := by
  intro e
  rcases h.2 with ⟨rfl, _⟩ | ⟨g, cap, cur, rfl, _, hg, _⟩
  · cases e
  · have : g = Bs := by simpa [Value.ownBlock] using e
    subst this
    rw [hb] at hg
    injection hg with hg
    injection hg with _ hg _
    exact absurd hg (by decide)
theorem cell_box {W : World} {Bs : Nat} {v : Value} {ty : TypeId} (h : W.heap[Bs]? = some (.cells #[v] ty (0, 0))) : W.cell? ⟨Bs, 0, none⟩ = some v ∧ W.frozen? ⟨Bs, 0, none⟩ = false := by
  constructor
  · unfold World.cell?; rw [h]; rfl
  · simp [World.frozen?, h]

/-- One more behind: the world when the append is done and its four cells and the box are not yet laid. -/
structure Mid (B Bs : Nat) (w W w3 : World) (q : List XV) (v : Value) (g cap : Nat) : Prop where
  row : w3.ownsRow B 24 4 (.slice (some ⟨g, 0, none⟩) (q.length + 1) cap) (q.length + 1) (cells4 q ++ [.int .i64 0, .int .i64 0, .string ⟨#[]⟩, .slice none 0 0])
  box : w3.heap[Bs]? = some (.cells #[v] 22 (0, 0))
  same : ∀ b, b < W.heap.size → v.ownBlock ≠ some b → w3.heap[b]? = W.heap[b]?
  at' : v.ownBlock = some g ∨ W.heap.size ≤ g
  below : Below w.heap.size w w3
  size : W.heap.size ≤ w3.heap.size
/-- One more behind: all is laid. -/
structure Fin (B Bs : Nat) (w W w5 : World) (q : List XV) (x : XV) (v : Value) (g cap : Nat) : Prop where
  row : w5.ownsRow B 24 4 (.slice (some ⟨g, 0, none⟩) (q.length + 1) cap) (q.length + 1) (cells4 (q ++ [x]))
  box : w5.heap[Bs]? = some (.cells #[.slice (some ⟨g, 0, none⟩) (q.length + 1) cap] 22 (0, 0))
  same : ∀ b, b < W.heap.size → b ≠ Bs → v.ownBlock ≠ some b → w5.heap[b]? = W.heap[b]?
  at' : v.ownBlock = some g ∨ W.heap.size ≤ g
  below : Below w.heap.size w w5
  size : W.heap.size ≤ w5.heap.size
/-- The four cells of an item. -/
def put4 (W : World) (g o : Nat) (x : XV) : World := (((W.setCell ⟨g, o, none⟩ (.int .i64 x.1.k)).setCell ⟨g, o + 1, none⟩ (.int .i64 x.1.n)).setCell ⟨g, o + 2, none⟩ (.string x.1.s)).setCell ⟨g, o + 3, none⟩ x.2
theorem put4_row {W : World} {B g cap : Nat} {q : List XV} (x : XV) (h : W.ownsRow B 24 4 (.slice (some ⟨g, 0, none⟩) (q.length + 1) cap) (q.length + 1) (cells4 q ++ [.int .i64 0, .int .i64 0, .string ⟨#[]⟩, .slice none 0 0])) :
    (put4 W g (q.length * 4) x).ownsRow B 24 4 (.slice (some ⟨g, 0, none⟩) (q.length + 1) cap) (q.length + 1) (cells4 (q ++ [x])) ∧ W.grownBy (put4 W g (q.length * 4) x) (some g) := by
  have h1 := h.stored (q.length * 4) (.int .i64 x.1.k)
  have h2 := h1.1.stored (q.length * 4 + 1) (.int .i64 x.1.n)
  have h3 := h2.1.stored (q.length * 4 + 2) (.string x.1.s)
  have h4 := h3.1.stored (q.length * 4 + 3) x.2
  have hl := cells4_len q
  refine ⟨?_, ((h1.2.trans h2.2).trans h3.2).trans h4.2⟩
  have e : (((((cells4 q ++ [Value.int .i64 0, Value.int .i64 0, Value.string ⟨#[]⟩, Value.slice none 0 0]).set (q.length * 4) (.int .i64 x.1.k)).set (q.length * 4 + 1) (.int .i64 x.1.n)).set (q.length * 4 + 2) (.string x.1.s)).set (q.length * 4 + 3) x.2) = cells4 (q ++ [x]) := by
    rw [cells4_app]
    have key : ∀ (xs : List Value) (m : Nat) (a b c d a' b' c' d' : Value), xs.length = m → ((((xs ++ [a, b, c, d]).set m a').set (m + 1) b').set (m + 2) c').set (m + 3) d' = xs ++ [a', b', c', d'] := by
      intro xs m a b c d a' b' c' d' hm
      subst hm
      simp
    exact key _ _ _ _ _ _ _ _ _ _ hl
  rw [← e]
  exact h4.1
theorem put4_far (W : World) (g o : Nat) (x : XV) {b : Nat} (hb : b ≠ g) : (put4 W g o x).heap[b]? = W.heap[b]? := by
  unfold put4
  rw [heap_setCell_other _ _ _ _ hb, heap_setCell_other _ _ _ _ hb, heap_setCell_other _ _ _ _ hb, heap_setCell_other _ _ _ _ hb]
theorem setCell0_box {W : World} {B : Nat} {v : Value} {t : TypeId} (v' : Value) (h : W.heap[B]? = some (.cells #[v] t (0, 0))) : (W.setCell ⟨B, 0, none⟩ v').heap[B]? = some (.cells #[v'] t (0, 0)) := by
  have := heap_setCell_same W B 0 #[v] t v' h
  rw [this]
  rfl
theorem Mid.fin1 {B Bs : Nat} {w W w3 : World} {q : List XV} {v : Value} {g cap : Nat} (x : XV) (hB : w.heap.size ≤ B) (hBs : w.heap.size ≤ Bs) (h : Mid B Bs w W w3 q v g cap) :
    Fin B Bs w W ((put4 w3 g (q.length * 4) x).setCell ⟨Bs, 0, none⟩ (.slice (some ⟨g, 0, none⟩) (q.length + 1) cap)) q x v g cap := by
  have hne : g ≠ Bs := fun e => row_ne h.row h.box (by simp [Value.ownBlock, e])
  obtain ⟨hr, hg⟩ := put4_row x h.row
  have hbox := (put4_far w3 g (q.length * 4) x (Ne.symm hne)).trans h.box
  have hgB := (h.row.lt g rfl).1
  refine ⟨ownsRow_setCell_other hr (by simp [Value.ownBlock]; exact hne) _, setCell0_box _ hbox, fun b hb h1 h2 => ?_, h.at', ?_, ?_⟩
  · rw [heap_setCell_other _ _ _ _ h1, put4_far _ _ _ _ (fun e => by
      rcases h.at' with h3 | h3
      · exact h2 (e ▸ h3)
      · omega)]
    exact h.same b hb h2
  · exact bS (h.below.grown hg h.below.size fun k e => by cases e; omega) hBs _
  · have := hg.size
    have := h.size
    simp only [World.size_setCell]
    omega
theorem Mid.fin2 {B Bs : Nat} {w W w3 : World} {q : List XV} {v : Value} {g cap : Nat} (x : XV) (hB : w.heap.size ≤ B) (hBs : w.heap.size ≤ Bs) (h : Mid B Bs w W w3 q v g cap) :
    Fin B Bs w W (put4 (w3.setCell ⟨Bs, 0, none⟩ (.slice (some ⟨g, 0, none⟩) (q.length + 1) cap)) g (q.length * 4) x) q x v g cap := by
  have hne : g ≠ Bs := fun e => row_ne h.row h.box (by simp [Value.ownBlock, e])
  have hrow := ownsRow_setCell_other h.row (a := ⟨Bs, 0, none⟩) (by simp [Value.ownBlock]; exact hne) (.slice (some ⟨g, 0, none⟩) (q.length + 1) cap)
  obtain ⟨hr, hg⟩ := put4_row x hrow
  have hgB := (h.row.lt g rfl).1
  have hb1 := bS h.below (p := ⟨Bs, 0, none⟩) hBs (.slice (some ⟨g, 0, none⟩) (q.length + 1) cap)
  refine ⟨hr, (put4_far _ g (q.length * 4) x (Ne.symm hne)).trans (setCell0_box _ h.box), fun b hb h1 h2 => ?_, h.at', ?_, ?_⟩
  · rw [put4_far _ _ _ _ (fun e => by
      rcases h.at' with h3 | h3
      · exact h2 (e ▸ h3)
      · omega), heap_setCell_other _ _ _ _ h1]
    exact h.same b hb h2
  · exact hb1.grown hg hb1.size fun k e => by cases e; omega
  · have := hg.size
    have := h.size
    simp only [World.size_setCell] at *
    omega
theorem Fin.after {B Bs : Nat} {w W w5 : World} {q : List XV} {x : XV} {v : Value} {g cap B0 : Nat} (hv : W.heap[Bs]? = some (.cells #[v] 22 (0, 0))) 
    (hxs : ∀ y ∈ q ++ [x], VT.InS (safeO Bs) W y.1 y.2) (hB0 : Bs < B0) (hrow : ∀ g, v.ownBlock = some g → ∃ o : Obj, W.heap[g]? = some o ∧ o.isCells = true) (h : Fin B Bs w W w5 q x v g cap) :
    KeepsFrom B0 W w5 ∧ Kept (safeO Bs) W w5 ∧ Got B Bs w (q ++ [x]) w5 := by
  have hk : Kept (safeO Bs) W w5 := by
    refine ⟨h.size, fun b o ⟨h1, h2, v', h3, h4, h5⟩ hb => ?_⟩
    rw [(cell_box hv).1] at h3
    cases h3
    have hb1 := (Array.getElem?_eq_some_iff.1 hb).1
    refine ⟨(h.same b hb1 h2 h4).trans hb, h1, h2, _, (cell_box h.box).1, ?_, fun g' e => ?_⟩
    · rcases h.at' with h6 | h6
      · show some g ≠ some b
        rw [← h6]; exact h4
      · intro e
        have : g = b := by simpa [Value.ownBlock] using e
        omega
    · exact (h.row.lt g' e).2
  refine ⟨⟨h.size, fun k o hkB hko hkc => ?_⟩, hk, _, h.box, by rw [List.length_append]; exact h.row, fun y hy => (hxs y hy).keep hk, h.below⟩
  refine (h.same k (Array.getElem?_eq_some_iff.1 hko).1 (by omega) fun e => ?_).trans hko
  obtain ⟨o', ho', hc'⟩ := hrow k e
  rw [hko] at ho'
  cases ho'
  rw [hkc] at hc'
  cases hc'
end Go.Proofs.YtbgpipdbnjoeeaaDoor
