/-
  An iterator over values that reads and lays memory, and a range statement over it: the contract of the one and the law of the other, from the base law of the statement and the steps of a loop's record. No condition but those that each theorem states.
-/
import Derived.Test.YtbgpipdbnjoeeaaDoorRParts
import Derived.RangeFuncNested
import Derived.RangeFuncBound
import Derived.RangeFuncCalls
import Derived.RangeFuncLeaves
import Derived.Shelf.Abstract
import Derived.Shelf.RegionOpen
import Derived.OwnWalkIn
import Derived.TacticsInMore
import Derived.LoopNIn
import Derived.LoopIn
namespace Go.Proofs.YtbgpipdbnjoeeaaDoor
open Go.RowKit Go.Shelf Go.ChangeShapes Go.WideShapes Go.ChangeAt Go.Deep

/-- A value: its tree, and the slice value of its root. -/
abbrev XV := VT × Value
/-- What is safe, world by world. -/
structure Safe (safe : World → Nat → Obj → Prop) (B : Nat) : Prop where
  cells : ∀ W b o, safe W b o → o.isCells = true
  grown : ∀ W W' row b o, B ≤ W.heap.size → W.grownBy W' row → (∀ r, row = some r → ∃ u : Obj, W.heap[r]? = some u ∧ u.isCells = false) → safe W b o → W.heap[b]? = some o → safe W' b o
  new : ∀ W W' b o b0 o0, B ≤ W.heap.size → safe W b0 o0 → W.heap[b0]? = some o0 → Below W.heap.size W W' → W.heap.size ≤ b → W'.heap[b]? = some o → o.isCells = true → safe W' b o
theorem Safe.mono {safe : World → Nat → Obj → Prop} {B B' : Nat} (h : Safe safe B) (hb : B ≤ B') : Safe safe B' :=
  ⟨h.cells, fun W W' row b o hB => h.grown W W' row b o (by omega), fun W W' b o b0 o0 hB => h.new W W' b o b0 o0 (by omega)⟩
/-- What is safe lies as it lay. -/
structure Kept (safe : World → Nat → Obj → Prop) (W W' : World) : Prop where
  size : W.heap.size ≤ W'.heap.size
  same : ∀ b o, safe W b o → W.heap[b]? = some o → W'.heap[b]? = some o ∧ safe W' b o
theorem Kept.refl {safe : World → Nat → Obj → Prop} (W : World) : Kept safe W W := ⟨Nat.le_refl _, fun _ _ h k => ⟨k, h⟩⟩
theorem Kept.trans {safe : World → Nat → Obj → Prop} {A B C : World} (h : Kept safe A B) (k : Kept safe B C) : Kept safe A C := ⟨Nat.le_trans h.size k.size, fun b o hs hb => k.same b o (h.same b o hs hb).2 (h.same b o hs hb).1⟩
theorem Kept.grown {safe : World → Nat → Obj → Prop} {B0 : Nat} (S : Safe safe B0) {A B : World} {row : Option Nat} (hB : B0 ≤ A.heap.size) (hg : A.grownBy B row) (hr : ∀ r, row = some r → ∃ o : Obj, A.heap[r]? = some o ∧ o.isCells = false) : Kept safe A B :=
  ⟨hg.size, fun b o hs hb => ⟨(hg.block b (Array.getElem?_eq_some_iff.1 hb).1 fun e => by
    obtain ⟨u, hu, hc⟩ := hr b e.symm
    rw [hb] at hu
    cases hu
    rw [S.cells A b o hs] at hc
    cases hc).trans hb, S.grown A B row b o hB hg hr hs hb⟩⟩
theorem grown_of_below {W W' : World} (h : Below W.heap.size W W') : W.grownBy W' none := ⟨h.os, h.tape, h.output, h.size, fun k hk _ => h.block k hk⟩
theorem Kept.below {safe : World → Nat → Obj → Prop} {B : Nat} (S : Safe safe B) {W W' : World} (hB : B ≤ W.heap.size) (h : Below W.heap.size W W') : Kept safe W W' := Kept.grown S hB (grown_of_below h) fun r e => by cases e
theorem Kept.turn {safe : World → Nat → Obj → Prop} {B : Nat} (S : Safe safe B) {W : World} {l : Nat} {o : Obj} (hB : B ≤ W.heap.size) (o' : Obj) (hl : W.heap[l]? = some o) (ho : o.isCells = false) : Kept safe W (W.putObj l o') :=
  Kept.grown S hB (row := some l) ⟨rfl, rfl, rfl, by simp, fun k _ hk => World.putObj_heap_other fun e => hk (by rw [e])⟩ fun r e => by cases e; exact ⟨o, hl, ho⟩
namespace VT
/-- The tree lies in safe blocks. -/
def InS (safe : World → Nat → Obj → Prop) (w : World) : VT → Value → Prop
  | .mk k n s len kids, sl => I64 k ∧ I64 n ∧ s.size ≤ 9223372036854775807 ∧ len ≤ 9223372036854775807 ∧ ∃ (p : Option Addr) (cap : Nat), sl = .slice p len cap ∧ len ≤ cap ∧ cap ≤ 9223372036854775807 ∧
      (0 < len → ∃ b o u, p = some ⟨b, o, none⟩ ∧ w.heap[b]? = some u ∧ safe w b u ∧ ∀ i (h : i < len), ∃ sl', w.cell? ⟨b, o + i * 4, none⟩ = some (.int .i64 (kids ⟨i, h⟩).k) ∧ w.cell? ⟨b, o + i * 4 + 1, none⟩ = some (.int .i64 (kids ⟨i, h⟩).n) ∧
        w.cell? ⟨b, o + i * 4 + 2, none⟩ = some (.string (kids ⟨i, h⟩).s) ∧ w.cell? ⟨b, o + i * 4 + 3, none⟩ = some sl' ∧ InS safe w (kids ⟨i, h⟩) sl')
theorem InS.out {safe : World → Nat → Obj → Prop} {w : World} : ∀ {t : VT} {sl : Value}, InS safe w t sl → I64 t.k ∧ I64 t.n ∧ t.s.size ≤ 9223372036854775807 ∧ t.len ≤ 9223372036854775807 ∧ ∃ (p : Option Addr) (cap : Nat), sl = .slice p t.len cap ∧ t.len ≤ cap ∧ cap ≤ 9223372036854775807 ∧
      (0 < t.len → ∃ b o u, p = some ⟨b, o, none⟩ ∧ w.heap[b]? = some u ∧ safe w b u ∧ ∀ i, i < t.len → ∃ sl', Cell4 w b (o + i * 4) (t.kid i) sl' ∧ InS safe w (t.kid i) sl')
  | .mk k n s len kids, sl, h => by
    obtain ⟨h1, h2, h3, h4, p, cap, hsl, hcap, hsz, hi⟩ := h
    refine ⟨h1, h2, h3, h4, p, cap, hsl, hcap, hsz, fun hl => ?_⟩
    obtain ⟨b, o, u, hp, hu, hs, hi⟩ := hi hl
    refine ⟨b, o, u, hp, hu, hs, fun i (hil : i < len) => ?_⟩
    obtain ⟨sl', c0, c1, c2, c3, hk⟩ := hi i hil
    exact ⟨sl', by rw [kid_mk hil]; exact ⟨c0, c1, c2, c3⟩, by rw [kid_mk hil]; exact hk⟩
theorem InS.mk' {safe : World → Nat → Obj → Prop} {w : World} {t : VT} {sl : Value} (h1 : I64 t.k) (h2 : I64 t.n) (h3 : t.s.size ≤ 9223372036854775807) (h4 : t.len ≤ 9223372036854775807) {p : Option Addr} {cap : Nat} (hsl : sl = .slice p t.len cap) (hlc : t.len ≤ cap) (hcap : cap ≤ 9223372036854775807)
    (hi : 0 < t.len → ∃ b o u, p = some ⟨b, o, none⟩ ∧ w.heap[b]? = some u ∧ safe w b u ∧ ∀ i, i < t.len → ∃ sl', Cell4 w b (o + i * 4) (t.kid i) sl' ∧ InS safe w (t.kid i) sl') : InS safe w t sl := by
  cases t with
  | mk k n s len kids =>
    refine ⟨h1, h2, h3, h4, p, cap, hsl, hlc, hcap, fun hl => ?_⟩
    obtain ⟨b, o, u, hp, hu, hs, hi⟩ := hi hl
    refine ⟨b, o, u, hp, hu, hs, fun i (hil : i < len) => ?_⟩
    obtain ⟨sl', ⟨c0, c1, c2, c3⟩, hk⟩ := hi i hil
    rw [kid_mk hil] at c0 c1 c2 hk
    exact ⟨sl', c0, c1, c2, c3, hk⟩
theorem InS.plain {safe : World → Nat → Obj → Prop} {w : World} : ∀ (t : VT) (sl : Value), InS safe w t sl → In w t sl := by
  intro t
  induction t using ind with
  | h t ih =>
    intro sl h
    obtain ⟨h1, h2, h3, h4, p, cap, hsl, hlc, hcap, hi⟩ := h.out
    refine In.mk h1 h2 h3 h4 hsl hlc hcap fun hl => ?_
    obtain ⟨b, o, u, hp, hu, hs, hi⟩ := hi hl
    refine ⟨b, o, hp, fun i hil => ?_⟩
    obtain ⟨sl', c, hk⟩ := hi i hil
    exact ⟨sl', c, ih i hil sl' hk⟩
theorem InS.keep {safe : World → Nat → Obj → Prop} {w w' : World} (hk : Kept safe w w') : ∀ (t : VT) (sl : Value), InS safe w t sl → InS safe w' t sl := by
  intro t
  induction t using ind with
  | h t ih =>
    intro sl h
    obtain ⟨h1, h2, h3, h4, p, cap, hsl, hlc, hcap, hi⟩ := h.out
    refine InS.mk' h1 h2 h3 h4 hsl hlc hcap fun hl => ?_
    obtain ⟨b, o, u, hp, hu, hs, hi⟩ := hi hl
    obtain ⟨hu', hs'⟩ := hk.same b u hs hu
    have hc : ∀ (o : Nat) (v : Value), w.cell? ⟨b, o, none⟩ = some v → w'.cell? ⟨b, o, none⟩ = some v := fun o v h => by rw [← h]; exact World.cell?_of_block (hu'.trans hu.symm)
    refine ⟨b, o, u, hp, hu', hs', fun i hil => ?_⟩
    obtain ⟨sl', ⟨c0, c1, c2, c3⟩, hkk⟩ := hi i hil
    exact ⟨sl', ⟨hc _ _ c0, hc _ _ c1, hc _ _ c2, hc _ _ c3⟩, ih i hil sl' hkk⟩
end VT

/-- AN ITERATOR's CONTRACT: 'full' is what comes; a round is told that what it is handed lies there; it keeps what is safe. -/
def Seq (gf : Nat) (lb : Array Value) (full : List VT) (safe : World → Nat → Obj → Prop) (w : World) : Prop :=
  ∀ (l : Nat) (J Jx : List XV → World → Prop) (W : World), Below w.heap.size w W → OwnFrom W.heap.size J → OwnFrom W.heap.size Jx →
    (∀ pre (x : XV) W1, J pre W1 → VT.InS safe W1 x.1 x.2 → x.1 ∈ full → pre.length < full.length → YieldAt Fence.wide 0 Tryd.prog l #[x.1.val x.2] W1 fun e W' =>
      (e = .returned (.bool true) ∧ J (pre ++ [x]) W' ∧ Kept safe W1 W' ∧ KeepsFrom W.heap.size W1 W') ∨ (e = .returned (.bool false) ∧ Jx (pre ++ [x]) W' ∧ KeepsFrom W.heap.size W1 W')) →
    J [] W →
    CallsIn Fence.wide 0 Tryd.prog gf (#[.func (.yield l) #[] #[]] ++ lb) W fun e W' => (∃ v, e = .returned v) ∧ ((∃ xs : List XV, xs.map Prod.fst = full ∧ J xs W') ∨ (∃ pre : List XV, pre.map Prod.fst <+: full ∧ Jx pre W'))

/-- How a round's body may be left. -/
def After (safe : World → Nat → Obj → Prop) (B : Nat) (I : List XV → World → Prop) (Ix : Code → List XV → World → Prop) (xs : List XV) (W : World) : Exit → Act → World → Prop
  | .normal, _, W' => KeepsFrom B W W' ∧ Kept safe W W' ∧ I xs W'
  | .ret, _, W' => KeepsFrom B W W' ∧ Ix .ret xs W'
  | .exit id, _, W' => KeepsFrom B W W' ∧ Ix (.exit id) xs W'
  | .goto t, _, W' => KeepsFrom B W W' ∧ Ix (.goto t) xs W'
  | .panic _, _, _ => False
  | .outgrown, _, _ => False

theorem below_from {B : Nat} {W W' : World} (h : Below W.heap.size W W') : KeepsFrom B W W' := ⟨h.size, fun k o _ hk _ => by rw [h.block k (Array.getElem?_eq_some_iff.1 hk).1]; exact hk⟩
theorem from_mono {B B' : Nat} {W W' : World} (h : KeepsFrom B W W') (hb : B ≤ B') : KeepsFrom B' W W' := ⟨h.size, fun k o hk => h.same k o (by omega)⟩
theorem from_turn {B l : Nat} (W : World) (o' : Obj) (hl : l < B) : KeepsFrom B W (W.putObj l o') := ⟨by simp, fun k o hk h _ => by rw [World.putObj_heap_other (by omega)]; exact h⟩

/-- A RANGE STATEMENT OVER SUCH AN ITERATOR. -/
theorem range_law {g : Operand} {ps : Array Tmp} {assign body : Code} {Q : Exit → Act → World → Prop} {a : Act} {w : World} {gf : Nat} {lb : Array Value}
    (hg : a.eval g = .func (.func gf) #[] lb) (eg : ∀ args w, (callFunc gf args).run Tryd.prog w = .ok (.enter gf args) w)
    {full : List VT} {safe : World → Nat → Obj → Prop} (S : Safe safe w.heap.size) (hseq : Seq gf lb full safe w) (hps : ps.size = 1)
    (I : List XV → World → Prop) (Ix : Code → List XV → World → Prop) (hI : OwnFrom w.heap.size I) (hIx : ∀ c, OwnFrom w.heap.size (Ix c)) (h0 : I [] w)
    (Ax : XV → Act → World → Prop) (hAx : ∀ x a', OwnFrom w.heap.size (fun (_ : Unit) W => Ax x a' W))
    (hassign : ∀ (l : Nat) (pre : List XV) (x : XV) (W : World) (K : Act → World → Prop), I pre W → VT.InS safe W x.1 x.2 → w.heap.size ≤ W.heap.size → (∀ a' W', Below W.heap.size W W' → I pre W' → Ax x a' W' → K a' W') →
      assign.wpIn (Fence.wide.inRound l) 0 Tryd.prog (Exit.then K (fun _ _ _ => False)) { tmps := (ps.zip #[x.1.val x.2]).foldl (fun t (p, v) => t.setIfInBounds p v) a.tmps, defers := [] } W)
    (hbody : ∀ (l : Nat) (pre : List XV) (x : XV) (a' : Act) (W : World), I pre W → VT.InS safe W x.1 x.2 → w.heap.size ≤ W.heap.size → x.1 ∈ full → Ax x a' W → pre.length < full.length →
      body.wpIn (Fence.wide.inRound l) 0 Tryd.prog (After safe w.heap.size I Ix (pre ++ [x]) W) a' W)
    (hdone : ∀ (D : Nat) (xs : List XV) (W : World), w.heap.size ≤ D → xs.map Prod.fst = full → I xs W → W.heap[D]? = some (.deferred (some [])) → Q .normal { a with defers := { target := .collected D, args := #[] } :: a.defers } W)
    (hstop : ∀ (D : Nat) (c : Code) (pre : List XV) (W : World), w.heap.size ≤ D → pre.map Prod.fst <+: full → Ix c pre W → W.heap[D]? = some (.deferred (some [])) → c.wpIn Fence.wide 0 Tryd.prog Q { a with defers := { target := .collected D, args := #[] } :: a.defers } W) :
    (Code.rangeFunc g ps assign body).wpIn Fence.wide 0 Tryd.prog Q a w := by
  refine wpIn_rangeFunc fun fn hfn => ?_
  let L : LoopState → Option Code → Loop := fun st pe => { state := st, pending := pe, fn, tmps := a.tmps, params := ps, assign, body, defers := w.heap.size }
  -- the two blocks of the statement's book-keeping
  let Bk : LoopState → Option Code → World → Prop := fun st pe W => W.heap[w.heap.size + 1]? = some (.loop (L st pe)) ∧ W.heap[w.heap.size]? = some (.deferred (some []))
  have bkT : ∀ {st pe W} (st' pe'), Bk st pe W → Bk st' pe' (W.putObj (w.heap.size + 1) (.loop (L st' pe'))) := fun st' pe' h =>
    ⟨World.putObj_heap_same (Array.getElem?_eq_some_iff.1 h.1).1, (World.putObj_heap_other (by omega)).trans h.2⟩
  have bkK : ∀ {st pe W W'}, Bk st pe W → KeepsFrom w.heap.size W W' → Bk st pe W' := fun h k => ⟨k.same _ _ (by omega) h.1 rfl, k.same _ _ (Nat.le_refl _) h.2 rfl⟩
  obtain ⟨W1, hW1⟩ : ∃ W1, (w.alloc (.deferred (some []))).alloc (.loop (L .ready none)) = W1 := ⟨_, rfl⟩
  have hB1 : Below w.heap.size w W1 := hW1 ▸ bA (bA (Below.refl _ w) _) _
  have hs1 : W1.heap.size = w.heap.size + 2 := by rw [← hW1]; simp
  have hK1 : Bk .ready none W1 := by
    rw [← hW1]
    refine ⟨?_, ?_⟩
    · have := World.alloc_heap_new (w.alloc (.deferred (some []))) (.loop (L .ready none))
      rwa [World.size_alloc] at this
    · exact (Below.heap_alloc _ _ _ (by simp)).trans (World.alloc_heap_new w _)
  have hI1 : I [] W1 := hI _ _ _ none h0 (grown_of_below hB1) (fun r e => by cases e)
  refine ⟨w.heap.size + 1, [{ target := .collected w.heap.size, args := #[] }], W1, { target := .fn (.func gf) lb, args := #[.func (.yield (w.heap.size + 1)) #[] #[]] }, W1, gf,
    #[.func (.yield (w.heap.size + 1)) #[] #[]] ++ lb, W1, ?_, ?_, fun _ _ => trivial, ?_, fun h => by simp [Fence.wide] at h, ?_⟩
  · rw [← hW1]; exact run_enterLoop_outer _ _ _ _ _
  · simp only [resolve, hg]
    simp [go_sem]
  · simp [invoke, go_sem, eg]
  have abide : ∀ {T : List XV → World → Prop}, OwnFrom w.heap.size T → ∀ st (pe : List XV → Option Code → Prop), OwnFrom W1.heap.size (fun pre W => ∃ c, pe pre c ∧ T pre W ∧ Bk st c W) := by
    intro T hT st pe s A B row ⟨c, hp, ht, hb⟩ hgr hr
    refine ⟨c, hp, hT s A B row ht hgr fun r e => ?_, ?_, ?_⟩
    · obtain ⟨h1, h2⟩ := hr r e
      exact ⟨by omega, h2⟩
    · rw [hgr.block _ (Array.getElem?_eq_some_iff.1 hb.1).1 fun e => by have := (hr _ e.symm).1; omega]; exact hb.1
    · rw [hgr.block _ (Array.getElem?_eq_some_iff.1 hb.2).1 fun e => by have := (hr _ e.symm).1; omega]; exact hb.2
  refine (hseq (w.heap.size + 1) (fun pre W => ∃ c, c = none ∧ I pre W ∧ Bk .ready c W) (fun pre W => ∃ c, (∃ j, c = some j ∧ Ix j pre W) ∧ Bk .done c W) W1 hB1 ?_ ?_ ?_ ⟨none, rfl, hI1, hK1⟩).mono ?_
  · exact fun s A B row h hgr hr => abide hI .ready (fun _ c => c = none) s A B row h hgr hr
  · intro s A B row ⟨c, ⟨j, hc, hj⟩, hb⟩ hgr hr
    obtain ⟨c', hc', hj', hb'⟩ := abide (hIx j) .done (fun _ c' => c' = c) s A B row ⟨c, rfl, hj, hb⟩ hgr hr
    subst hc'
    exact ⟨c', ⟨j, hc, hj'⟩, hb'⟩
  · rintro pre x W2 ⟨c, rfl, hi, hb⟩ hx hmem hlen
    have hsz2 : w.heap.size ≤ W2.heap.size := by have := (Array.getElem?_eq_some_iff.1 hb.2).1; omega
    have hy := run_yield (P := Tryd.prog) (args := #[x.1.val x.2]) hb.1 (by show 1 = ps.size; rw [hps])
    refine ⟨fn, _, assign, body, hy, roundIn_of_wpIn hfn (hassign _ pre x W2 _ hi hx hsz2 ?_)⟩
    clear hy
    intro a' Wa hba hia hax
    have hsza : w.heap.size ≤ Wa.heap.size := Nat.le_trans hsz2 hba.size
    have hxa := hx.keep (Kept.below S hsz2 hba)
    have hbk : Bk .ready none Wa := bkK hb (below_from hba)
    refine ⟨_, run_beginRound hbk.1 rfl, ?_⟩
    have hb3 : Bk .busy none (Wa.putObj (w.heap.size + 1) (.loop (L .busy none))) := bkT .busy none hbk
    refine wpIn_mono (hbody _ pre x a' _ (hI.putObj _ hia (by omega) hbk.1 rfl) (hxa.keep (Kept.turn S hsza _ hbk.1 rfl)) (by simpa using hsza) hmem ((hAx x a').putObj (s := ()) _ hax (by omega) hbk.1 rfl) hlen) ?_
    have kf : ∀ {W4 : World} (o' : Obj), KeepsFrom w.heap.size (Wa.putObj (w.heap.size + 1) (.loop (L .busy none))) W4 → KeepsFrom W1.heap.size W2 (W4.putObj (w.heap.size + 1) o') := fun o' hk =>
      (below_from hba).trans ((from_turn _ _ (by omega)).trans ((from_mono hk (by omega)).trans (from_turn _ _ (by omega))))
    rintro e a3 W4 hp
    cases e with
    | normal =>
      obtain ⟨hk, hkp, hi4⟩ := hp
      have hb4 : Bk .busy none W4 := bkK hb3 hk
      exact ⟨_, _, run_endRound none hb4.1, .inl ⟨rfl, ⟨none, rfl, hI.putObj _ hi4 (by omega) hb4.1 rfl, bkT .ready none hb4⟩,
        (Kept.below S hsz2 hba).trans ((Kept.turn S hsza _ hbk.1 rfl).trans (hkp.trans (Kept.turn S (by have := hkp.size; simp at this; omega) _ hb4.1 rfl))), kf _ hk⟩⟩
    | ret =>
      obtain ⟨hk, hi4⟩ := hp
      have hb4 : Bk .busy none W4 := bkK hb3 hk
      exact ⟨_, _, run_endRound (some .ret) hb4.1, .inr ⟨rfl, ⟨some .ret, ⟨.ret, rfl, (hIx _).putObj _ hi4 (by omega) hb4.1 rfl⟩, bkT .done (some .ret) hb4⟩, kf _ hk⟩⟩
    | exit id =>
      obtain ⟨hk, hi4⟩ := hp
      have hb4 : Bk .busy none W4 := bkK hb3 hk
      exact ⟨_, _, run_endRound (some (.exit id)) hb4.1, .inr ⟨rfl, ⟨some (.exit id), ⟨.exit id, rfl, (hIx _).putObj _ hi4 (by omega) hb4.1 rfl⟩, bkT .done (some (.exit id)) hb4⟩, kf _ hk⟩⟩
    | goto u =>
      obtain ⟨hk, hi4⟩ := hp
      have hb4 : Bk .busy none W4 := bkK hb3 hk
      exact ⟨_, _, run_endRound (some (.goto u)) hb4.1, .inr ⟨rfl, ⟨some (.goto u), ⟨.goto u, rfl, (hIx _).putObj _ hi4 (by omega) hb4.1 rfl⟩, bkT .done (some (.goto u)) hb4⟩, kf _ hk⟩⟩
    | panic ch => exact hp.elim
    | outgrown => exact hp.elim
  · rintro e W2 ⟨⟨v, rfl⟩, (⟨xs, hxs, c, rfl, hi, hb⟩ | ⟨pre, hpre, c, ⟨j, rfl, hj⟩, hb⟩)⟩
    · exact ⟨none, _, run_endLoop hb.1 (by simp [L]), hdone _ xs _ (Nat.le_refl _) hxs (hI.putObj _ hi (by omega) hb.1 rfl) ((World.putObj_heap_other (by omega)).trans hb.2)⟩
    · exact ⟨some j, _, run_endLoop hb.1 (by simp [L]), hstop _ j pre _ (Nat.le_refl _) hpre ((hIx j).putObj _ hj (by omega) hb.1 rfl) ((World.putObj_heap_other (by omega)).trans hb.2)⟩
end Go.Proofs.YtbgpipdbnjoeeaaDoor
