/-
  What the law TokenAll holds while it goes over what is handed out. Conditions: those that each theorem states.
-/
import Derived.Test.YtikpbfghdiomgaaDoorT8V
namespace Go.Proofs.YtikpbfghdiomgaaDoor
open Go.RowKit Go.Shelf Go.Lib Go.Sort Tk

/-- THE RANGE STATEMENT, where what the round's assignments leave hangs on a box that they lay. -/
theorem range_lawQb {g : Operand} {ps : Array Tmp} {assign body : Code} {Q : Exit → Act → World → Prop} {a : Act} {w : World} {gf : Nat} {lb : Array Value}
    (hg : a.eval g = .func (.func gf) #[] lb) (eg : ∀ args w, (callFunc gf args).run Tryd.prog w = .ok (.enter gf args) w)
    {N : Nat} {ar : Nat → Array Value} {safe : Nat → Obj → Prop} (hsafe : ∀ b o, safe b o → o.isCells = true) (hseq : SeqQ gf lb N ar safe w) (hps : ∀ k, (ar k).size = ps.size)
    (I : Nat → World → Prop) (Ix : Code → Nat → World → Prop) (hI : OwnFrom w.heap.size I) (hIx : ∀ c, OwnFrom w.heap.size (Ix c)) (h0 : I 0 w)
    (Px : Nat → Nat → World → Prop) (hPx : ∀ k bx, OwnFrom w.heap.size (fun (_ : Unit) W => Px k bx W)) (Fx : Nat → Nat → Act)
    (hassign : ∀ (l k : Nat) (W : World) (K : Act → World → Prop), I k W → k < N → w.heap.size ≤ W.heap.size → (∀ bx W', Below W.heap.size W W' → I k W' → Px k bx W' → K (Fx k bx) W') →
      assign.wpIn (Fence.wide.inRound l) 0 Tryd.prog (Exit.then K (fun _ _ _ => False)) { tmps := (ps.zip (ar k)).foldl (fun t (p, v) => t.setIfInBounds p v) a.tmps, defers := [] } W)
    (hbody : ∀ (l m hi k bx : Nat) (W : World), I k W → w.heap.size ≤ m → m ≤ hi → hi ≤ W.heap.size → Px k bx W → k < N →
      body.wpIn (Fence.wide.inRound l) 0 Tryd.prog (AfterQ safe w.heap.size m hi I Ix (k + 1) W) (Fx k bx) W)
    (hdone : ∀ (D : Nat) (W : World), w.heap.size ≤ D → I N W → W.heap[D]? = some (.deferred (some [])) → Q .normal { a with defers := { target := .collected D, args := #[] } :: a.defers } W)
    (hstop : ∀ (D : Nat) (c : Code) (k : Nat) (W : World), w.heap.size ≤ D → k ≤ N → Ix c k W → W.heap[D]? = some (.deferred (some [])) → c.wpIn Fence.wide 0 Tryd.prog Q { a with defers := { target := .collected D, args := #[] } :: a.defers } W) :
    (Code.rangeFunc g ps assign body).wpIn Fence.wide 0 Tryd.prog Q a w :=
  range_lawQ hg eg hsafe hseq hps I Ix hI hIx h0 (fun _ => I) (fun _ => hI) (fun _ _ _ h => h) (fun k a' W => ∃ bx, a' = Fx k bx ∧ Px k bx W) (fun k _ s A C row ⟨bx, e, h⟩ hg hr => ⟨bx, e, hPx k bx s A C row h hg hr⟩)
    (fun l _ k W K h1 h2 h3 hK => hassign l k W K h1 h2 h3 fun bx W' hb hi' hp => hK _ W' hb hi' ⟨bx, rfl, hp⟩)
    (fun l m hi k a' W h1 h2 h3 h4 ⟨bx, e, hp⟩ h6 => by subst e; exact hbody l m hi k bx W h1 h2 h3 h4 hp h6) hdone hstop

abbrev objB (v : Bool) : Obj := .cells #[.bool v] 4 (0, 0)
abbrev objU (n : Int) : Obj := .cells #[.int .u8 n] 5 (0, 0)
/-- What the law holds: its bound, its answer's box, its words, the place, the error, its count. -/
structure KaI (w : World) (b B1 : Nat) (st : Int) (vl : Value) (L : List Tk.W) (z er : Int) (k : Int) (W : World) : Prop where
  below : Below w.heap.size w W
  cs : W.heap[w.heap.size]? = some (objU st)
  cr : W.heap[w.heap.size + 1]? = some (objB false)
  cl : W.heap[b]? = some (objT vl)
  ca : W.heap[b + 1]? = some (objI z)
  ce : W.heap[b + 2]? = some (objE er)
  cn : W.heap[b + 3]? = some (objI k)
  row : W.ownsRow B1 28 4 vl L.length (L.flatMap cW)
  far : ∀ g, vl.ownBlock = some g → g < b
  lo : w.heap.size + 2 ≤ B1
  hi : B1 ≤ b
theorem KaI.keep {w A C : World} {b B1 : Nat} {st z er k : Int} {vl : Value} {L : List Tk.W} (h : KaI w b B1 st vl L z er k A) (hb : Below A.heap.size A C) : KaI w b B1 st vl L z er k C := by
  have kb : ∀ {j : Nat} {o : Obj}, A.heap[j]? = some o → C.heap[j]? = some o := fun h => (hb.block _ (Array.getElem?_eq_some_iff.1 h).1).trans h
  exact ⟨belowT8 h.below hb, kb h.cs, kb h.cr, kb h.cl, kb h.ca, kb h.ce, kb h.cn, ownsRow_keep8 h.row fun g e => hb.block g (h.row.lt g e).2, h.far, h.lo, h.hi⟩
theorem KaI.own {w : World} {b B1 B : Nat} {st z er k : Int} {vl : Value} {L : List Tk.W} {A C : World} {row : Option Nat} (h : KaI w b B1 st vl L z er k A) (hB : w.heap.size ≤ B) (hgr : A.grownBy C row) (hr : ∀ r, row = some r → B ≤ r ∧ ∃ o : Obj, A.heap[r]? = some o ∧ o.isCells = false) : KaI w b B1 st vl L z er k C := by
  have hk : ∀ (b : Nat) (cur : Array Value) (t : TypeId) (fr : Nat × Nat), A.heap[b]? = some (Obj.cells cur t fr) → C.heap[b]? = A.heap[b]? := fun b cur t fr hb => hgr.block b (Array.getElem?_eq_some_iff.1 hb).1 fun e => by
    obtain ⟨_, o, ho, hc⟩ := hr b e.symm
    rw [hb] at ho
    cases ho
    cases hc
  refine ⟨⟨hgr.os.trans h.below.os, hgr.tape.trans h.below.tape, hgr.output.trans h.below.output, Nat.le_trans h.below.size hgr.size, fun j hj => (hgr.block j (by have := h.below.size; omega) fun e => by have := (hr j e.symm).1; omega).trans (h.below.block j hj)⟩, (hk _ _ _ _ h.cs).trans h.cs, (hk _ _ _ _ h.cr).trans h.cr, (hk _ _ _ _ h.cl).trans h.cl, (hk _ _ _ _ h.ca).trans h.ca, (hk _ _ _ _ h.ce).trans h.ce, (hk _ _ _ _ h.cn).trans h.cn, ownsRow_keep8 h.row fun g e => ?_, h.far, h.lo, h.hi⟩
  obtain ⟨cur, hc⟩ := ownsRow_cells8 h.row e
  exact hk _ _ _ _ hc
/-- The count is set. -/
theorem KaI.set {w W : World} {b B1 lo hi : Nat} {st z er k : Int} {vl : Value} {L : List Tk.W} (h : KaI w b B1 st vl L z er k W) (hlo : b + 5 ≤ lo) (_hm1 : 0 < w.heap.size) (_hm2 : 2 < w.heap.size) (k' : Int) :
    LeavesQ (safe8 (b + 4)) (b + 5) lo hi W (W.setCell ⟨b + 3, 0, none⟩ (.int .i64 k')) ∧ KaI w b B1 st vl L z er k' (W.setCell ⟨b + 3, 0, none⟩ (.int .i64 k')) := by
  have hh : ∀ j, j ≠ b + 3 → (W.setCell ⟨b + 3, 0, none⟩ (.int .i64 k')).heap[j]? = W.heap[j]? := fun j hj => heap_setCell_other _ ⟨b + 3, 0, none⟩ j _ hj
  have h1 := h.lo
  have h2 := h.hi
  refine ⟨leavesQ_of (fun j => j = b + 3) (by simp) (fun j _ hj => hh j hj) (fun j hj => by omega) (fun j hj => by omega) (fun j o hj ho => ?_), ⟨?_, (hh _ (by omega)).trans h.cs, (hh _ (by omega)).trans h.cr, (hh _ (by omega)).trans h.cl, (hh _ (by omega)).trans h.ca, (hh _ (by omega)).trans h.ce, heap_setCell_same W (b + 3) 0 _ _ _ h.cn, ownsRow_keep8 h.row fun g e => hh g (by have := h.far g e; omega), h.far, h.lo, h.hi⟩⟩
  · rw [hj, h.cn] at ho
    cases ho
    rfl
  · exact ⟨h.below.os, h.below.tape, h.below.output, by simpa using h.below.size, fun j hj => (hh j (by omega)).trans (h.below.block j hj)⟩
/-- The answer is true. -/
structure KaE (w W : World) : Prop where
  below : Below w.heap.size w W
  cr : W.heap[w.heap.size + 1]? = some (objB true)
theorem KaE.own {w : World} {B : Nat} {A C : World} {row : Option Nat} (h : KaE w A) (hB : w.heap.size ≤ B) (hgr : A.grownBy C row) (hr : ∀ r, row = some r → B ≤ r ∧ ∃ o : Obj, A.heap[r]? = some o ∧ o.isCells = false) : KaE w C :=
  ⟨⟨hgr.os.trans h.below.os, hgr.tape.trans h.below.tape, hgr.output.trans h.below.output, Nat.le_trans h.below.size hgr.size, fun j hj => (hgr.block j (by have := h.below.size; omega) fun e => by have := (hr j e.symm).1; omega).trans (h.below.block j hj)⟩,
    (hgr.block _ (Array.getElem?_eq_some_iff.1 h.cr).1 fun e => by
      obtain ⟨_, o, ho, hc⟩ := hr _ e.symm
      rw [h.cr] at ho
      cases ho
      cases hc).trans h.cr⟩
theorem KaI.ret {w W : World} {b B1 lo hi : Nat} {st z er k : Int} {vl : Value} {L : List Tk.W} (h : KaI w b B1 st vl L z er k W) (hlo : b + 5 ≤ lo) (_hm1 : 0 < w.heap.size) (_hm2 : 2 < w.heap.size) :
    LeavesQ (safe8 (b + 4)) (b + 5) lo hi W (W.setCell ⟨w.heap.size + 1, 0, none⟩ (.bool true)) ∧ KaE w (W.setCell ⟨w.heap.size + 1, 0, none⟩ (.bool true)) := by
  have hh : ∀ j, j ≠ w.heap.size + 1 → (W.setCell ⟨w.heap.size + 1, 0, none⟩ (.bool true)).heap[j]? = W.heap[j]? := fun j hj => heap_setCell_other _ ⟨w.heap.size + 1, 0, none⟩ j _ hj
  have h1 := h.lo
  have h2 := h.hi
  refine ⟨leavesQ_of (fun j => j = w.heap.size + 1) (by simp) (fun j _ hj => hh j hj) (fun j hj => by omega) (fun j hj => by omega) (fun j o hj ho => ?_), ⟨?_, heap_setCell_same W (w.heap.size + 1) 0 _ _ _ h.cr⟩⟩
  · rw [hj, h.cr] at ho
    cases ho
    rfl
  · exact ⟨h.below.os, h.below.tape, h.below.output, by simpa using h.below.size, fun j hj => (hh j (by omega)).trans (h.below.block j hj)⟩
theorem LeavesQ.drew {safe : Nat → Obj → Prop} {B lo hi : Nat} {A C : World} {n : Nat} (h : LeavesQ safe B lo hi (A.drewN n) C) : LeavesQ safe B lo hi A C := ⟨⟨h.kept.size, h.kept.same⟩, h.band, ⟨h.own.size, h.own.same⟩⟩
/-- What stands at a round, for the law. -/
theorem all_at (s : ByteArray) {L : List Tk.W} {z : Nat} {er : Int} (hsc : Tk.scan (bs s) = (L, z, er)) :
    (∀ k, k < (outs (bs s)).length → (eX s k = 0 ∧ (er ≠ 0 ∨ (er = 0 ∧ ∃ u, L[k]? = some u ∧ kX s k = (u.kind : Int) ∧ sX s k = ⟨u.s.toArray⟩ ∧ nX s k = (u.n : Int) ∧ pX s k = (u.p : Int)))) ∨ (eX s k ≠ 0 ∧ eX s k = er ∧ kX s k = 0 ∧ sX s k = ⟨#[]⟩ ∧ nX s k = 0 ∧ pX s k = (z : Int))) ∧
    ((∀ k, k < (outs (bs s)).length → eX s k = 0) → er = 0 ∧ (outs (bs s)).length = L.length) := by
  rcases scan_outs (bs s) with ⟨ws, h1, h2⟩ | ⟨ws, p, e, he, h1, h2⟩
  · obtain ⟨rfl, rfl, rfl⟩ : L = ws ∧ z = 0 ∧ er = 0 := by rw [h2] at hsc; cases hsc; exact ⟨rfl, rfl, rfl⟩
    refine ⟨fun k hk => ?_, fun _ => ⟨rfl, by rw [h1, List.length_map]⟩⟩
    rcases scan_at s (.inl ⟨h1, h2⟩) k hk with ⟨u, k1, k2, k3, k4, k5, k6⟩ | ⟨hk2, _⟩
    · exact .inl ⟨k6, .inr ⟨rfl, u, k1, k2, k3, k4, k5⟩⟩
    · rw [h1, List.length_map] at hk
      omega
  · obtain ⟨rfl, rfl, rfl⟩ : L = [] ∧ z = p ∧ er = e := by rw [h2] at hsc; cases hsc; exact ⟨rfl, rfl, rfl⟩
    have hx := outX_at h1
    refine ⟨fun k hk => ?_, fun h => ?_⟩
    · rcases scan_at s (.inr ⟨z, er, he, h1, h2⟩) k hk with ⟨u, _, _, _, _, _, k6⟩ | ⟨rfl, k2, _⟩
      · exact .inl ⟨k6, .inl he⟩
      · refine .inr ⟨k2, ?_⟩
        unfold eX kX sX nX pX
        rw [hx.1]
        exact ⟨rfl, rfl, rfl, rfl, rfl⟩
    · have := h _ hx.2
      unfold eX at this
      rw [hx.1] at this
      exact absurd this he
end Go.Proofs.YtikpbfghdiomgaaDoor
