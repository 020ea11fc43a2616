/-
  An iterator that makes new memory in each round and reads it behind its yield, and a range statement over it: the contract of the one and the law of the other. No condition but those that each theorem states.
-/
import Derived.Test.YtikpbfghdiomgaaDoorQuRangeF
namespace Go.Proofs.YtikpbfghdiomgaaDoor
open Go.RowKit Go.Shelf Go.Lib Go.Sort

/-- The cells of the blocks from lo on, up to hi, lie as they lay. -/
def Band (lo hi : Nat) (A C : World) : Prop := ∀ b o, lo ≤ b → b < hi → A.heap[b]? = some o → o.isCells = true → C.heap[b]? = some o
theorem Band.trans {lo hi : Nat} {A B C : World} (h : Band lo hi A B) (k : Band lo hi B C) : Band lo hi A C := fun b o h1 h2 h3 h4 => k b o h1 h2 (h b o h1 h2 h3 h4) h4
theorem Band.below {lo hi : Nat} {A C : World} (h : Below A.heap.size A C) : Band lo hi A C := fun b o _ _ h3 _ => by rw [h.block b (Array.getElem?_eq_some_iff.1 h3).1]; exact h3
theorem Band.turn {lo hi : Nat} {W : World} {l : Nat} {o : Obj} (o' : Obj) (hl : W.heap[l]? = some o) (ho : o.isCells = false) : Band lo hi W (W.putObj l o') := fun b u _ _ hb hc => by
  rw [World.putObj_heap_other fun e => ?_]
  · exact hb
  · subst e
    rw [hl] at hb
    cases hb
    rw [ho] at hc
    cases hc
/-- What a yield, or a round, leaves alone. -/
structure LeavesQ (safe : Nat → Obj → Prop) (B lo hi : Nat) (A C : World) : Prop where
  kept : Kept safe A C
  band : Band lo hi A C
  own : KeepsFrom B A C
theorem LeavesQ.trans {safe : Nat → Obj → Prop} {B lo hi : Nat} {A D C : World} (h : LeavesQ safe B lo hi A D) (k : LeavesQ safe B lo hi D C) : LeavesQ safe B lo hi A C := ⟨h.kept.trans k.kept, h.band.trans k.band, h.own.trans k.own⟩
theorem LeavesQ.below {safe : Nat → Obj → Prop} {B lo hi : Nat} {A C : World} (h : Below A.heap.size A C) : LeavesQ safe B lo hi A C := ⟨Kept.below h, Band.below h, below_from h⟩
/-- AN ITERATOR's CONTRACT: N rounds, of what each is handed is told ahead; a yield keeps what is safe, and what the iterator made new since the last one. -/
def SeqQ (gf : Nat) (lb : Array Value) (N : Nat) (ar : Nat → Array Value) (safe : Nat → Obj → Prop) (w : World) : Prop :=
  ∀ (l : Nat) (J Jx : Nat → World → Prop) (W : World), Below w.heap.size w W → OwnFrom W.heap.size J → OwnFrom W.heap.size Jx →
    (∀ k A C, J k A → Below A.heap.size A C → k < N → YieldAt Fence.wide 0 Tryd.prog l (ar k) C fun e W' =>
      ((e = .returned (.bool true) ∧ J (k + 1) W') ∨ (e = .returned (.bool false) ∧ Jx (k + 1) W')) ∧ LeavesQ safe W.heap.size A.heap.size C.heap.size C W') →
    J 0 W →
    CallsIn Fence.wide 0 Tryd.prog gf (#[.func (.yield l) #[] #[]] ++ lb) W fun e W' => (∃ v, e = .returned v) ∧ (J N W' ∨ (∃ k, k ≤ N ∧ Jx k W'))

/-- How a round's body may be left. -/
def AfterQ (safe : Nat → Obj → Prop) (B lo hi : Nat) (I : Nat → World → Prop) (Ix : Code → Nat → World → Prop) (k : Nat) (W : World) : Exit → Act → World → Prop
  | .normal, _, W' => LeavesQ safe B lo hi W W' ∧ I k W'
  | .ret, _, W' => LeavesQ safe B lo hi W W' ∧ Ix .ret k W'
  | .exit id, _, W' => LeavesQ safe B lo hi W W' ∧ Ix (.exit id) k W'
  | .goto t, _, W' => LeavesQ safe B lo hi W W' ∧ Ix (.goto t) k W'
  | .panic _, _, _ => False
  | .outgrown, _, _ => False

/-- A RANGE STATEMENT OVER SUCH AN ITERATOR. -/
theorem range_lawQ {g : Operand} {ps : Array Tmp} {assign body : Code} {Q : Exit → Act → World → Prop} {a : Act} {w : World} {gf : Nat} {lb : Array Value}
    (hg : a.eval g = .func (.func gf) #[] lb) (eg : ∀ args w, (callFunc gf args).run Tryd.prog w = .ok (.enter gf args) w)
    {N : Nat} {ar : Nat → Array Value} {safe : Nat → Obj → Prop} (hsafe : ∀ b o, safe b o → o.isCells = true) (hseq : SeqQ gf lb N ar safe w) (hps : ∀ k, (ar k).size = ps.size)
    (I : Nat → World → Prop) (Ix : Code → Nat → World → Prop) (hI : OwnFrom w.heap.size I) (hIx : ∀ c, OwnFrom w.heap.size (Ix c)) (h0 : I 0 w)
    (Iw : Nat → Nat → World → Prop) (hIw : ∀ m, OwnFrom w.heap.size (Iw m)) (hmark : ∀ k A, w.heap.size ≤ A.heap.size → I k A → Iw A.heap.size k A)
    (Ax : Nat → Act → World → Prop) (hAx : ∀ k a', OwnFrom w.heap.size (fun (_ : Unit) W => Ax k a' W))
    (hassign : ∀ (l m k : Nat) (W : World) (K : Act → World → Prop), Iw m k W → k < N → w.heap.size ≤ W.heap.size → (∀ a' W', Below W.heap.size W W' → Iw m k W' → Ax k a' W' → K a' W') →
      assign.wpIn (Fence.wide.inRound l) 0 Tryd.prog (Exit.then K (fun _ _ _ => False)) { tmps := (ps.zip (ar k)).foldl (fun t (p, v) => t.setIfInBounds p v) a.tmps, defers := [] } W)
    (hbody : ∀ (l m hi k : Nat) (a' : Act) (W : World), Iw m k W → w.heap.size ≤ m → m ≤ hi → hi ≤ W.heap.size → Ax k a' W → k < N →
      body.wpIn (Fence.wide.inRound l) 0 Tryd.prog (AfterQ safe w.heap.size m hi I Ix (k + 1) W) a' W)
    (hdone : ∀ (D : Nat) (W : World), w.heap.size ≤ D → I N W → W.heap[D]? = some (.deferred (some [])) → Q .normal { a with defers := { target := .collected D, args := #[] } :: a.defers } W)
    (hstop : ∀ (D : Nat) (c : Code) (k : Nat) (W : World), w.heap.size ≤ D → k ≤ N → Ix c k W → W.heap[D]? = some (.deferred (some [])) → c.wpIn Fence.wide 0 Tryd.prog Q { a with defers := { target := .collected D, args := #[] } :: a.defers } W) :
    (Code.rangeFunc g ps assign body).wpIn Fence.wide 0 Tryd.prog Q a w := by
  refine wpIn_rangeFunc fun fn hfn => ?_
  let L : LoopState → Option Code → Loop := fun st pe => { state := st, pending := pe, fn, tmps := a.tmps, params := ps, assign, body, defers := w.heap.size }
  let Bk : LoopState → Option Code → World → Prop := fun st pe W => W.heap[w.heap.size + 1]? = some (.loop (L st pe)) ∧ W.heap[w.heap.size]? = some (.deferred (some []))
  have bkT : ∀ {st pe W} (st' pe'), Bk st pe W → Bk st' pe' (W.putObj (w.heap.size + 1) (.loop (L st' pe'))) := fun st' pe' h =>
    ⟨World.putObj_heap_same (Array.getElem?_eq_some_iff.1 h.1).1, (World.putObj_heap_other (by omega)).trans h.2⟩
  have bkK : ∀ {st pe W W'}, Bk st pe W → KeepsFrom w.heap.size W W' → Bk st pe W' := fun h k => ⟨k.same _ _ (by omega) h.1 rfl, k.same _ _ (Nat.le_refl _) h.2 rfl⟩
  obtain ⟨W1, hW1⟩ : ∃ W1, (w.alloc (.deferred (some []))).alloc (.loop (L .ready none)) = W1 := ⟨_, rfl⟩
  have hB1 : Below w.heap.size w W1 := hW1 ▸ (((Below.refl _ w).alloc (Nat.le_refl _) _).alloc (by simp) _)
  have hs1 : W1.heap.size = w.heap.size + 2 := by rw [← hW1]; simp
  have hK1 : Bk .ready none W1 := by
    rw [← hW1]
    refine ⟨?_, ?_⟩
    · have := World.alloc_heap_new (w.alloc (.deferred (some []))) (.loop (L .ready none))
      rwa [World.size_alloc] at this
    · exact (Below.heap_alloc _ _ _ (by simp)).trans (World.alloc_heap_new w _)
  have hI1 : I 0 W1 := hI _ _ _ none h0 (grown_of_below hB1) (fun r e => by cases e)
  refine ⟨w.heap.size + 1, [{ target := .collected w.heap.size, args := #[] }], W1, { target := .fn (.func gf) lb, args := #[.func (.yield (w.heap.size + 1)) #[] #[]] }, W1, gf,
    #[.func (.yield (w.heap.size + 1)) #[] #[]] ++ lb, W1, ?_, ?_, fun _ _ => trivial, ?_, fun h => by simp [Fence.wide] at h, ?_⟩
  · rw [← hW1]; exact run_enterLoop_outer _ _ _ _ _
  · simp only [resolve, hg]
    simp [go_sem]
  · simp [invoke, go_sem, eg]
  have abide : ∀ {T : Nat → World → Prop}, OwnFrom w.heap.size T → ∀ st (pe : Nat → Option Code → Prop), OwnFrom W1.heap.size (fun pre W => ∃ c, pe pre c ∧ T pre W ∧ Bk st c W) := by
    intro T hT st pe s A B row ⟨c, hp, ht, hb⟩ hgr hr
    refine ⟨c, hp, hT s A B row ht hgr fun r e => ?_, ?_, ?_⟩
    · obtain ⟨h1, h2⟩ := hr r e
      exact ⟨by omega, h2⟩
    · rw [hgr.block _ (Array.getElem?_eq_some_iff.1 hb.1).1 fun e => by have := (hr _ e.symm).1; omega]; exact hb.1
    · rw [hgr.block _ (Array.getElem?_eq_some_iff.1 hb.2).1 fun e => by have := (hr _ e.symm).1; omega]; exact hb.2
  refine (hseq (w.heap.size + 1) (fun pre W => ∃ c, c = none ∧ I pre W ∧ Bk .ready c W) (fun pre W => ∃ c, (∃ j, c = some j ∧ Ix j pre W) ∧ Bk .done c W) W1 hB1 ?_ ?_ ?_ ⟨none, rfl, hI1, hK1⟩).mono ?_
  · exact fun s A B row h hgr hr => abide hI .ready (fun _ c => c = none) s A B row h hgr hr
  · intro s A B row ⟨c, ⟨j, hc, hj⟩, hb⟩ hgr hr
    obtain ⟨c', hc', hj', hb'⟩ := abide (hIx j) .done (fun _ c' => c' = c) s A B row ⟨c, rfl, hj, hb⟩ hgr hr
    subst hc'
    exact ⟨c', ⟨j, hc, hj'⟩, hb'⟩
  · rintro pre A W2 ⟨c, rfl, hi, hb⟩ hAC hlen
    have hszA : w.heap.size ≤ A.heap.size := by have := (Array.getElem?_eq_some_iff.1 hb.2).1; omega
    have hiw : Iw A.heap.size pre W2 := hIw _ _ _ _ none (hmark pre A hszA hi) (grown_of_below hAC) (fun r e => by cases e)
    replace hb : Bk .ready none W2 := bkK hb (below_from hAC)
    have hsz2 : w.heap.size ≤ W2.heap.size := by have := (Array.getElem?_eq_some_iff.1 hb.2).1; omega
    have hy := run_yield (P := Tryd.prog) (args := ar pre) hb.1 (by show (ar pre).size = ps.size; rw [hps])
    refine ⟨fn, _, assign, body, hy, roundIn_of_wpIn hfn (hassign _ _ pre W2 _ hiw hlen hsz2 ?_)⟩
    clear hy
    intro a' Wa hba hia hax
    have hsza : w.heap.size ≤ Wa.heap.size := Nat.le_trans hsz2 hba.size
    have hbk : Bk .ready none Wa := bkK hb (below_from hba)
    refine ⟨_, run_beginRound hbk.1 rfl, ?_⟩
    have hb3 : Bk .busy none (Wa.putObj (w.heap.size + 1) (.loop (L .busy none))) := bkT .busy none hbk
    refine wpIn_mono (hbody _ A.heap.size W2.heap.size pre a' _ ((hIw _).putObj _ hia (by omega) hbk.1 rfl) hszA hAC.size (by have := hba.size; simpa using this) ((hAx pre a').putObj (s := ()) _ hax (by omega) hbk.1 rfl) hlen) ?_
    have lv : ∀ {W4 : World} (st' : LoopState) (pe' : Option Code), LeavesQ safe w.heap.size A.heap.size W2.heap.size (Wa.putObj (w.heap.size + 1) (.loop (L .busy none))) W4 → Bk .busy none W4 → LeavesQ safe W1.heap.size A.heap.size W2.heap.size W2 (W4.putObj (w.heap.size + 1) (.loop (L st' pe'))) := fun st' pe' hk hb4 =>
      ⟨(Kept.below hba).trans ((Kept.turn hsafe _ hbk.1 rfl).trans (hk.kept.trans (Kept.turn hsafe _ hb4.1 rfl))),
        (Band.below hba).trans ((Band.turn _ hbk.1 rfl).trans (hk.band.trans (Band.turn _ hb4.1 rfl))),
        (below_from hba).trans ((from_turn _ _ (by omega)).trans ((from_mono hk.own (by omega)).trans (from_turn _ _ (by omega))))⟩
    rintro e a3 W4 hp
    cases e with
    | normal =>
      obtain ⟨hk, hi4⟩ := hp
      have hb4 : Bk .busy none W4 := bkK hb3 hk.own
      exact ⟨_, _, run_endRound none hb4.1, .inl ⟨rfl, ⟨none, rfl, hI.putObj _ hi4 (by omega) hb4.1 rfl, bkT .ready none hb4⟩⟩, lv .ready none hk hb4⟩
    | ret =>
      obtain ⟨hk, hi4⟩ := hp
      have hb4 : Bk .busy none W4 := bkK hb3 hk.own
      exact ⟨_, _, run_endRound (some .ret) hb4.1, .inr ⟨rfl, ⟨some .ret, ⟨.ret, rfl, (hIx _).putObj _ hi4 (by omega) hb4.1 rfl⟩, bkT .done (some .ret) hb4⟩⟩, lv .done (some .ret) hk hb4⟩
    | exit id =>
      obtain ⟨hk, hi4⟩ := hp
      have hb4 : Bk .busy none W4 := bkK hb3 hk.own
      exact ⟨_, _, run_endRound (some (.exit id)) hb4.1, .inr ⟨rfl, ⟨some (.exit id), ⟨.exit id, rfl, (hIx _).putObj _ hi4 (by omega) hb4.1 rfl⟩, bkT .done (some (.exit id)) hb4⟩⟩, lv .done (some (.exit id)) hk hb4⟩
    | goto u =>
      obtain ⟨hk, hi4⟩ := hp
      have hb4 : Bk .busy none W4 := bkK hb3 hk.own
      exact ⟨_, _, run_endRound (some (.goto u)) hb4.1, .inr ⟨rfl, ⟨some (.goto u), ⟨.goto u, rfl, (hIx _).putObj _ hi4 (by omega) hb4.1 rfl⟩, bkT .done (some (.goto u)) hb4⟩⟩, lv .done (some (.goto u)) hk hb4⟩
    | panic ch => exact hp.elim
    | outgrown => exact hp.elim
  · rintro e W2 ⟨⟨v, rfl⟩, (⟨c, rfl, hi, hb⟩ | ⟨pre, hpre, c, ⟨j, rfl, hj⟩, hb⟩)⟩
    · exact ⟨none, _, run_endLoop hb.1 (by simp [L]), hdone _ _ (Nat.le_refl _) (hI.putObj _ hi (by omega) hb.1 rfl) ((World.putObj_heap_other (by omega)).trans hb.2)⟩
    · exact ⟨some j, _, run_endLoop hb.1 (by simp [L]), hstop _ j pre _ (Nat.le_refl _) hpre ((hIx j).putObj _ hj (by omega) hb.1 rfl) ((World.putObj_heap_other (by omega)).trans hb.2)⟩
end Go.Proofs.YtikpbfghdiomgaaDoor
