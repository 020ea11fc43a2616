/-
  The law of a range statement over an iterator that reads memory, where what the round's assignments leave is one frame a round. No condition but those that each theorem states.
-/
import Derived.Test.YtikpbfghdiomgaaDoorQuSeqN
namespace Go.Proofs.YtikpbfghdiomgaaDoor
open Go.RowKit Go.Shelf Go.Lib Go.Sort

theorem range_lawF {g : Operand} {ps : Array Tmp} {assign body : Code} {Q : Exit → Act → World → Prop} {a : Act} {w : World} {gf : Nat} {pre lb : Array Value}
    (hg : a.eval g = .func (.func gf) pre lb) (eg : ∀ args w, (callFunc gf args).run Tryd.prog w = .ok (.enter gf args) w)
    {N : Nat} {ar : Nat → Array Value} {safe : Nat → Obj → Prop} (hsafe : ∀ b o, safe b o → o.isCells = true) (hseq : SeqN gf pre lb N ar safe w) (hps : ∀ k, (ar k).size = ps.size)
    (I : Nat → World → Prop) (Ix : Code → Nat → World → Prop) (hI : OwnFrom w.heap.size I) (hIx : ∀ c, OwnFrom w.heap.size (Ix c)) (h0 : I 0 w)
    (F : Nat → Act)
    (hassign : ∀ (l : Nat) (k : Nat) (W : World) (K : Act → World → Prop), I k W → k < N → w.heap.size ≤ W.heap.size → (∀ W', Below W.heap.size W W' → I k W' → K (F k) W') →
      assign.wpIn (Fence.wide.inRound l) 0 Tryd.prog (Exit.then K (fun _ _ _ => False)) { tmps := (ps.zip (ar k)).foldl (fun t (p, v) => t.setIfInBounds p v) a.tmps, defers := [] } W)
    (hbody : ∀ (l : Nat) (k : Nat) (W : World), I k W → w.heap.size ≤ W.heap.size → k < N →
      body.wpIn (Fence.wide.inRound l) 0 Tryd.prog (After safe w.heap.size I Ix (k + 1) W) (F k) W)
    (hdone : ∀ (D : Nat) (W : World), w.heap.size ≤ D → I N W → W.heap[D]? = some (.deferred (some [])) → Q .normal { a with defers := { target := .collected D, args := #[] } :: a.defers } W)
    (hstop : ∀ (D : Nat) (c : Code) (k : Nat) (W : World), w.heap.size ≤ D → k ≤ N → Ix c k W → W.heap[D]? = some (.deferred (some [])) → c.wpIn Fence.wide 0 Tryd.prog Q { a with defers := { target := .collected D, args := #[] } :: a.defers } W) :
    (Code.rangeFunc g ps assign body).wpIn Fence.wide 0 Tryd.prog Q a w :=
  range_law hg eg hsafe hseq hps I Ix hI hIx h0 (fun k a' _ => a' = F k) (fun _ _ _ _ _ _ h _ _ => h) (fun l k W K h1 h2 h3 h4 => hassign l k W K h1 h2 h3 fun W' hb hi => h4 _ W' hb hi rfl)
    (fun l k a' W h1 h2 h3 h4 => by subst h3; exact hbody l k W h1 h2 h4) hdone hstop
/-- What a call, or a round, leaves of all that was there. -/
theorem own_below_at {B : World} : OwnFrom B.heap.size (fun (_ : Nat) W => Below B.heap.size B W) := by
  rintro k A C row h hgr hr
  exact ⟨hgr.os.trans h.os, hgr.tape.trans h.tape, hgr.output.trans h.output, Nat.le_trans h.size hgr.size, fun j hj => (hgr.block j (by have := h.size; omega) fun e => by have := (hr j e.symm).1; omega).trans (h.block j hj)⟩
end Go.Proofs.YtikpbfghdiomgaaDoor
