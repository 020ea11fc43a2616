/-
  An iterator with memory of its own that it writes, and a range statement over it: the contract of the one and the law of the other. No condition but those that each theorem states.
-/
import Derived.Test.YtibphmddepfgjaaQuSeqN
import Derived.Test.YtibphmddepfgjaaQuRangeF
namespace Go.Proofs.Ytibphmddepfgjaa
open Go.RowKit Go.Shelf Go.Lib Go.Sort

/-- Only blocks from lo to hi, and new ones, turned. -/
structure Inner (lo hi : Nat) (A C : World) : Prop where
  os : C.os = A.os
  tape : C.tape = A.tape
  output : C.output = A.output
  size : A.heap.size ≤ C.heap.size
  block : ∀ b, b < A.heap.size → ¬ (lo ≤ b ∧ b < hi) → C.heap[b]? = A.heap[b]?
theorem Inner.below {lo hi : Nat} {A C : World} (h : Below A.heap.size A C) : Inner lo hi A C := ⟨h.os, h.tape, h.output, h.size, fun b hb _ => h.block b hb⟩
/-- What a yield keeps of an iterator's own, and of some old blocks. -/
structure Kp (old : Nat → Prop) (lo hi : Nat) (A C : World) : Prop where
  size : A.heap.size ≤ C.heap.size
  same : ∀ b o, (old b ∨ (lo ≤ b ∧ b < hi)) → A.heap[b]? = some o → o.isCells = true → C.heap[b]? = some o
theorem Kp.trans {old : Nat → Prop} {lo hi : Nat} {A B C : World} (h : Kp old lo hi A B) (k : Kp old lo hi B C) : Kp old lo hi A C := ⟨Nat.le_trans h.size k.size, fun b o hs hb hc => k.same b o hs (h.same b o hs hb hc) hc⟩
theorem Kp.below {old : Nat → Prop} {lo hi : Nat} {A C : World} (h : Below A.heap.size A C) : Kp old lo hi A C := ⟨h.size, fun b o _ hb _ => by rw [h.block b (Array.getElem?_eq_some_iff.1 hb).1]; exact hb⟩
theorem Kp.turn {old : Nat → Prop} {lo hi : Nat} {W : World} {l : Nat} {o : Obj} (o' : Obj) (hl : W.heap[l]? = some o) (ho : o.isCells = false) : Kp old lo hi W (W.putObj l o') :=
  ⟨by simp, fun b u _ hb hc => by
    rw [World.putObj_heap_other fun e => ?_]
    · exact hb
    · subst e
      rw [hl] at hb
      cases hb
      rw [ho] at hc
      cases hc⟩
/-- AN ITERATOR's CONTRACT: N rounds, of what each is handed is told ahead; its own memory lies between W's size and hi. -/
def SeqP (gf : Nat) (lb : Array Value) (N : Nat) (ar : Nat → Array Value) (old : Nat → Prop) (w : World) : Prop :=
  ∀ (l : Nat) (J Jx : Nat → Nat → World → Prop) (W : World), Below w.heap.size w W → (∀ hi, OwnFrom W.heap.size (J hi)) → (∀ hi, OwnFrom W.heap.size (Jx hi)) →
    (∀ hi k A C, W.heap.size ≤ hi → hi ≤ A.heap.size → J hi k A → Inner W.heap.size hi A C → J hi k C) →
    (∀ hi k W1, W.heap.size ≤ hi → hi ≤ W1.heap.size → J hi k W1 → k < N → YieldAt Fence.wide 0 Try.prog l (ar k) W1 fun e W' =>
      (e = .returned (.bool true) ∧ J hi (k + 1) W' ∧ Kp old W.heap.size hi W1 W' ∧ KeepsFrom W.heap.size W1 W') ∨ (e = .returned (.bool false) ∧ Jx hi (k + 1) W' ∧ KeepsFrom W.heap.size W1 W')) →
    (∀ W', Below W.heap.size W W' → J W'.heap.size 0 W') →
    CallsIn Fence.wide 0 Try.prog gf (#[.func (.yield l) #[] #[]] ++ lb) W fun e W' => (∃ v, e = .returned v) ∧ ∃ hi, W.heap.size ≤ hi ∧ (J hi N W' ∨ ∃ k, k ≤ N ∧ Jx hi k W')

/-- How a round's body may be left. -/
def AfterP (old : Nat → Prop) (lo B hi : Nat) (I : Nat → Nat → World → Prop) (Ix : Code → Nat → Nat → World → Prop) (k : Nat) (W : World) : Exit → Act → World → Prop
  | .normal, _, W' => KeepsFrom B W W' ∧ Kp old lo hi W W' ∧ I hi k W'
  | .ret, _, W' => KeepsFrom B W W' ∧ Ix .ret hi k W'
  | .exit id, _, W' => KeepsFrom B W W' ∧ Ix (.exit id) hi k W'
  | .goto t, _, W' => KeepsFrom B W W' ∧ Ix (.goto t) hi k W'
  | .panic _, _, _ => False
  | .outgrown, _, _ => False

/-- A RANGE STATEMENT OVER SUCH AN ITERATOR. -/
theorem range_lawP {g : Operand} {ps : Array Tmp} {assign body : Code} {Q : Exit → Act → World → Prop} {a : Act} {w : World} {gf : Nat} {lb : Array Value}
    (hg : a.eval g = .func (.func gf) #[] lb) (eg : ∀ args w, (callFunc gf args).run Try.prog w = .ok (.enter gf args) w)
    {N : Nat} {ar : Nat → Array Value} {old : Nat → Prop} (hseq : SeqP gf lb N ar old w) (hps : ∀ k, (ar k).size = ps.size)
    (I : Nat → Nat → World → Prop) (Ix : Code → Nat → Nat → World → Prop) (hI : ∀ hi, OwnFrom w.heap.size (I hi)) (hIx : ∀ c hi, OwnFrom w.heap.size (Ix c hi))
    (hIn : ∀ hi k A C, w.heap.size + 2 ≤ hi → hi ≤ A.heap.size → I hi k A → Inner (w.heap.size + 2) hi A C → I hi k C)
    (h0 : ∀ W', Below w.heap.size w W' → w.heap.size + 2 ≤ W'.heap.size → I W'.heap.size 0 W')
    (Ax : Nat → Nat → Act → World → Prop) (hAx : ∀ hi k a', OwnFrom w.heap.size (fun (_ : Unit) W => Ax hi k a' W))
    (hassign : ∀ (l hi k : Nat) (W : World) (K : Act → World → Prop), w.heap.size + 2 ≤ hi → hi ≤ W.heap.size → I hi k W → k < N → (∀ a' W', Below W.heap.size W W' → I hi k W' → Ax hi k a' W' → K a' W') →
      assign.wpIn (Fence.wide.inRound l) 0 Try.prog (Exit.then K (fun _ _ _ => False)) { tmps := (ps.zip (ar k)).foldl (fun t (p, v) => t.setIfInBounds p v) a.tmps, defers := [] } W)
    (hbody : ∀ (l hi k : Nat) (a' : Act) (W : World), w.heap.size + 2 ≤ hi → hi ≤ W.heap.size → I hi k W → Ax hi k a' W → k < N →
      body.wpIn (Fence.wide.inRound l) 0 Try.prog (AfterP old (w.heap.size + 2) w.heap.size hi I Ix (k + 1) W) a' W)
    (hdone : ∀ (D hi : Nat) (W : World), w.heap.size ≤ D → w.heap.size + 2 ≤ hi → I hi N W → W.heap[D]? = some (.deferred (some [])) → Q .normal { a with defers := { target := .collected D, args := #[] } :: a.defers } W)
    (hstop : ∀ (D hi : Nat) (c : Code) (k : Nat) (W : World), w.heap.size ≤ D → w.heap.size + 2 ≤ hi → k ≤ N → Ix c hi k W → W.heap[D]? = some (.deferred (some [])) → c.wpIn Fence.wide 0 Try.prog Q { a with defers := { target := .collected D, args := #[] } :: a.defers } W) :
    (Code.rangeFunc g ps assign body).wpIn Fence.wide 0 Try.prog Q a w := by
  refine wpIn_rangeFunc fun fn hfn => ?_
  let L : LoopState → Option Code → Loop := fun st pe => { state := st, pending := pe, fn, tmps := a.tmps, params := ps, assign, body, defers := w.heap.size }
  let Bk : LoopState → Option Code → World → Prop := fun st pe W => W.heap[w.heap.size + 1]? = some (.loop (L st pe)) ∧ W.heap[w.heap.size]? = some (.deferred (some []))
  have bkT : ∀ {st pe W} (st' pe'), Bk st pe W → Bk st' pe' (W.putObj (w.heap.size + 1) (.loop (L st' pe'))) := fun st' pe' h =>
    ⟨World.putObj_heap_same (Array.getElem?_eq_some_iff.1 h.1).1, (World.putObj_heap_other (by omega)).trans h.2⟩
  have bkK : ∀ {st pe W W'}, Bk st pe W → KeepsFrom w.heap.size W W' → Bk st pe W' := fun h k => ⟨k.same _ _ (by omega) h.1 rfl, k.same _ _ (Nat.le_refl _) h.2 rfl⟩
  obtain ⟨W1, hW1⟩ : ∃ W1, (w.alloc (.deferred (some []))).alloc (.loop (L .ready none)) = W1 := ⟨_, rfl⟩
  have hB1 : Below w.heap.size w W1 := hW1 ▸ (((Below.refl _ w).alloc (Nat.le_refl _) _).alloc (by simp) _)
  have hs1 : W1.heap.size = w.heap.size + 2 := by rw [← hW1]; simp
  have hK1 : Bk .ready none W1 := by
    rw [← hW1]
    refine ⟨?_, ?_⟩
    · have := World.alloc_heap_new (w.alloc (.deferred (some []))) (.loop (L .ready none))
      rwa [World.size_alloc] at this
    · exact (Below.heap_alloc _ _ _ (by simp)).trans (World.alloc_heap_new w _)
  refine ⟨w.heap.size + 1, [{ target := .collected w.heap.size, args := #[] }], W1, { target := .fn (.func gf) lb, args := #[.func (.yield (w.heap.size + 1)) #[] #[]] }, W1, gf,
    #[.func (.yield (w.heap.size + 1)) #[] #[]] ++ lb, W1, ?_, ?_, fun _ _ => trivial, ?_, fun h => by simp [Fence.wide] at h, ?_⟩
  · rw [← hW1]; exact run_enterLoop_outer _ _ _ _ _
  · simp only [resolve, hg]
    simp [go_sem]
  · simp [invoke, go_sem, eg]
  have abide : ∀ {T : Nat → World → Prop}, OwnFrom w.heap.size T → ∀ st (pe : Nat → Option Code → Prop), OwnFrom W1.heap.size (fun pre W => ∃ c, pe pre c ∧ T pre W ∧ Bk st c W) := by
    intro T hT st pe s A B row ⟨c, hp, ht, hb⟩ hgr hr
    refine ⟨c, hp, hT s A B row ht hgr fun r e => ?_, ?_, ?_⟩
    · obtain ⟨h1, h2⟩ := hr r e
      exact ⟨by omega, h2⟩
    · rw [hgr.block _ (Array.getElem?_eq_some_iff.1 hb.1).1 fun e => by have := (hr _ e.symm).1; omega]; exact hb.1
    · rw [hgr.block _ (Array.getElem?_eq_some_iff.1 hb.2).1 fun e => by have := (hr _ e.symm).1; omega]; exact hb.2
  refine (hseq (w.heap.size + 1) (fun hi pre W => ∃ c, c = none ∧ I hi pre W ∧ Bk .ready c W) (fun hi pre W => ∃ c, (∃ j, c = some j ∧ Ix j hi pre W) ∧ Bk .done c W) W1 hB1 ?_ ?_ ?_ ?_ ?_).mono ?_
  · exact fun hi s A B row h hgr hr => abide (hI hi) .ready (fun _ c => c = none) s A B row h hgr hr
  · intro hi s A B row ⟨c, ⟨j, hc, hj⟩, hb⟩ hgr hr
    obtain ⟨c', hc', hj', hb'⟩ := abide (hIx j hi) .done (fun _ c' => c' = c) s A B row ⟨c, rfl, hj, hb⟩ hgr hr
    subst hc'
    exact ⟨c', ⟨j, hc, hj'⟩, hb'⟩
  · rintro hi k A C hlo hhi ⟨c, hc, hj, hb⟩ hin
    rw [hs1] at hlo hin
    exact ⟨c, hc, hIn hi k A C hlo hhi hj hin, (hin.block _ (Array.getElem?_eq_some_iff.1 hb.1).1 (by omega)).trans hb.1, (hin.block _ (Array.getElem?_eq_some_iff.1 hb.2).1 (by omega)).trans hb.2⟩
  · rintro hi pre W2 hlo hhi ⟨c, rfl, hj, hb⟩ hlen
    rw [hs1] at hlo
    have hsz2 : w.heap.size ≤ W2.heap.size := by have := (Array.getElem?_eq_some_iff.1 hb.2).1; omega
    have hy := run_yield (P := Try.prog) (args := ar pre) hb.1 (by show (ar pre).size = ps.size; rw [hps])
    refine ⟨fn, _, assign, body, hy, roundIn_of_wpIn hfn (hassign _ hi pre W2 _ hlo hhi hj hlen ?_)⟩
    clear hy
    intro a' Wa hba hia hax
    have hsza : w.heap.size ≤ Wa.heap.size := Nat.le_trans hsz2 hba.size
    have hbk : Bk .ready none Wa := bkK hb (below_from hba)
    refine ⟨_, run_beginRound hbk.1 rfl, ?_⟩
    have hb3 : Bk .busy none (Wa.putObj (w.heap.size + 1) (.loop (L .busy none))) := bkT .busy none hbk
    refine wpIn_mono (hbody _ hi pre a' _ hlo (by have := hba.size; simp; omega) ((hI hi).putObj _ hia (by omega) hbk.1 rfl) ((hAx hi pre a').putObj (s := ()) _ hax (by omega) hbk.1 rfl) hlen) ?_
    have kf : ∀ {W4 : World} (o' : Obj), KeepsFrom w.heap.size (Wa.putObj (w.heap.size + 1) (.loop (L .busy none))) W4 → KeepsFrom W1.heap.size W2 (W4.putObj (w.heap.size + 1) o') := fun o' hk =>
      (below_from hba).trans ((from_turn _ _ (by omega)).trans ((from_mono hk (by omega)).trans (from_turn _ _ (by omega))))
    rintro e a3 W4 hp
    cases e with
    | normal =>
      obtain ⟨hk, hkp, hi4⟩ := hp
      have hb4 : Bk .busy none W4 := bkK hb3 hk
      refine ⟨_, _, run_endRound none hb4.1, .inl ⟨rfl, ⟨none, rfl, (hI hi).putObj _ hi4 (by omega) hb4.1 rfl, bkT .ready none hb4⟩, ?_, kf _ hk⟩⟩
      rw [hs1]
      exact (Kp.below hba).trans ((Kp.turn _ hbk.1 rfl).trans (hkp.trans (Kp.turn _ hb4.1 rfl)))
    | ret =>
      obtain ⟨hk, hi4⟩ := hp
      have hb4 : Bk .busy none W4 := bkK hb3 hk
      exact ⟨_, _, run_endRound (some .ret) hb4.1, .inr ⟨rfl, ⟨some .ret, ⟨.ret, rfl, (hIx _ hi).putObj _ hi4 (by omega) hb4.1 rfl⟩, bkT .done (some .ret) hb4⟩, kf _ hk⟩⟩
    | exit id =>
      obtain ⟨hk, hi4⟩ := hp
      have hb4 : Bk .busy none W4 := bkK hb3 hk
      exact ⟨_, _, run_endRound (some (.exit id)) hb4.1, .inr ⟨rfl, ⟨some (.exit id), ⟨.exit id, rfl, (hIx _ hi).putObj _ hi4 (by omega) hb4.1 rfl⟩, bkT .done (some (.exit id)) hb4⟩, kf _ hk⟩⟩
    | goto u =>
      obtain ⟨hk, hi4⟩ := hp
      have hb4 : Bk .busy none W4 := bkK hb3 hk
      exact ⟨_, _, run_endRound (some (.goto u)) hb4.1, .inr ⟨rfl, ⟨some (.goto u), ⟨.goto u, rfl, (hIx _ hi).putObj _ hi4 (by omega) hb4.1 rfl⟩, bkT .done (some (.goto u)) hb4⟩, kf _ hk⟩⟩
    | panic ch => exact hp.elim
    | outgrown => exact hp.elim
  · intro W' hb'
    refine ⟨none, rfl, h0 W' (bT' hB1 hb' hB1.size) (by have := hb'.size; omega), (hb'.block _ (by omega)).trans hK1.1, (hb'.block _ (by omega)).trans hK1.2⟩
  · rintro e W2 ⟨⟨v, rfl⟩, hi, hlo, (⟨c, rfl, hj, hb⟩ | ⟨pre, hpre, c, ⟨j, rfl, hj⟩, hb⟩)⟩
    · exact ⟨none, _, run_endLoop hb.1 (by simp [L]), hdone _ hi _ (Nat.le_refl _) (by omega) ((hI hi).putObj _ hj (by omega) hb.1 rfl) ((World.putObj_heap_other (by omega)).trans hb.2)⟩
    · exact ⟨some j, _, run_endLoop hb.1 (by simp [L]), hstop _ hi j pre _ (Nat.le_refl _) (by omega) hpre ((hIx j hi).putObj _ hj (by omega) hb.1 rfl) ((World.putObj_heap_other (by omega)).trans hb.2)⟩
end Go.Proofs.Ytibphmddepfgjaa
