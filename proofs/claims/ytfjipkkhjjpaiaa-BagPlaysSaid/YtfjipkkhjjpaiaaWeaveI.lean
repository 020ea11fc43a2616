/-
  bag's weave at ints over this seat's translation: a sorted list is woven into a bag's row. Conditions: those that each theorem states.
-/
import Derived.Test.YtfjipkkhjjpaiaaBackward
import Derived.Test.YtfjipkkhjjpaiaaBagF
import Derived.Test.YtfjipkkhjjpaiaaBagList
import Derived.RangeFuncLeaves
namespace Go.Proofs.Ytfjipkkhjjpaiaa
open Go.RowKit Go.Shelf Go.Lib Go.Sort St
attribute [local go_sem] Oper.semAt_some

/-- The cell of a number. -/
def cI (x : Int) : List Value := [.int .i64 x]
theorem cI_len (x : Int) : (cI x).length = 1 := rfl
theorem cI_one (x : Int) : ∀ v ∈ cI x, v.oneCell' = true := by
  intro v hv
  rw [List.mem_singleton.1 hv]
  rfl
theorem map_cI (xs : List Int) : xs.map (Value.int .i64) = xs.flatMap cI := by
  induction xs with
  | nil => rfl
  | cons x xs ih => rw [List.map_cons, List.flatMap_cons, ih]; rfl
theorem cT_len (x : It) : (It.cells x).length = 2 := rfl
theorem cT_one (x : It) : ∀ v ∈ It.cells x, v.oneCell' = true := by
  intro v hv
  have : v = .int .i64 x.1 ∨ v = .int .i64 x.2 := by simpa [It.cells] using hv
  rcases this with rfl | rfl <;> rfl
theorem infoI : (Try.prog.info? 3).map (fun i => (i.zero, i.size, i.bytes)) = some (some (.int .i64 0), 1, 8) := by kernel_rfl

theorem step_run {F : Fence} {n : Nat} {P : Program} {ops : Array Oper} {o : Oper} {a : Act} {w w' : World} {K : Act → World → Prop} {Q : Exit → Act → World → Prop} {E : Prop}
    (hg : o.guard = none) (s x : Operand) (t : TypeId) (ho : o.op = .call { callee := .builtin .append, args := #[s, x], argTypes := #[t, t] })
    {v1 v2 v' : Value} (hs : a.eval s = v1) (hx : a.eval x = v2) (hr : (Builtin.append_ #[t, t] o.type #[v1, v2]).run P w = .ok v' w') (h : K (a.put o.dst v') w') :
    if Region.wanted o (yielded ops a.tmps) = true then Oper.wpIn F n P o a w K Q else E := by
  have hw : Region.wanted o (yielded ops a.tmps) = true := by simp [Region.wanted, hg]
  rw [if_pos hw]
  unfold Oper.wpIn
  refine ⟨by simp [Oper.about, ho, resolve, Target.leads, Sem.run_pure], ?_⟩
  rw [Oper.semAt_plain F _ _ (by rw [ho]; intro c hc'; cases hc')]
  simp [execOp, ho, resolve, invoke, builtin, hs, hx, hr, Result.andThen]
  exact h
theorem oper_copy {F : Fence} (hF : ∀ f, F.fn f) {n : Nat} {P : Program} {o : Oper} {a : Act} {w w' : World} {K : Act → World → Prop} {Q : Exit → Act → World → Prop}
    (s x : Operand) (t : TypeId) (ho : o.op = .call { callee := .builtin .copy, args := #[s, x], argTypes := #[t, t] })
    {v1 v2 v' : Value} (hs : a.eval s = v1) (hx : a.eval x = v2) (hr : (Builtin.copy_ #[t, t] o.type #[v1, v2]).run P w = .ok v' w') (h : K (a.put o.dst v') w') :
    Oper.wpIn F n P o a w K Q := by
  unfold Oper.wpIn
  refine ⟨fun f _ => hF f, ?_⟩
  rw [Oper.semAt_plain F _ _ (by rw [ho]; intro c hc'; cases hc')]
  simp [execOp, ho, resolve, invoke, builtin, hs, hx, hr, Result.andThen]
  exact h

/-- The temporaries of weave behind its append. -/
def act2 (b n m ca cp c0 : Nat) (p0 pa pp : Option Addr) (B g cap : Nat) : Act :=
  { tmps := #[.pointer (some ⟨b, 0, none⟩), .slice pa m ca, .slice pp m cp, .pointer (some ⟨B, 0, none⟩), .pointer (some ⟨B + 1, 0, none⟩), undef, .pointer (some ⟨B + 1 + 1, 0, none⟩), undef, undef, .pointer (some ⟨b, 0, none⟩), .pointer (some ⟨b, 0, none⟩), .pointer (some ⟨b, 1, none⟩), .slice p0 n c0, .int .i64 n,
      .pointer (some ⟨b, 0, none⟩), .pointer (some ⟨b, 0, none⟩), .pointer (some ⟨b, 0, none⟩), .pointer (some ⟨b, 1, none⟩), .slice p0 n c0, .slice pa m ca, .slice (some ⟨g, 0, none⟩) (n + m) cap, .pointer (some ⟨b, 0, none⟩), .pointer (some ⟨b, 1, none⟩), undef, undef, undef, undef, undef, undef, undef, undef, undef, undef, undef, undef, undef, undef, undef, undef, undef, undef, undef, undef, undef, undef, undef, undef, undef, undef, undef, undef, undef, undef, undef, undef, undef, undef], defers := [] }
/-- The temporaries of weave in a round. -/
def actR (b n m ca cp c0 : Nat) (p0 pa pp : Option Addr) (B g nm cap Bk i p : Nat) : Act :=
  { tmps := #[.pointer (some ⟨b, 0, none⟩), .slice pa m ca, .slice pp m cp, .pointer (some ⟨B, 0, none⟩), .pointer (some ⟨B + 1, 0, none⟩), undef, .pointer (some ⟨B + 1 + 1, 0, none⟩), .int .i64 i, .int .i64 p, .pointer (some ⟨b, 0, none⟩), .pointer (some ⟨b, 0, none⟩), .pointer (some ⟨b, 1, none⟩), .slice p0 n c0, .int .i64 n,
      .pointer (some ⟨b, 0, none⟩), .pointer (some ⟨b, 0, none⟩), .pointer (some ⟨b, 0, none⟩), .pointer (some ⟨b, 1, none⟩), .slice p0 n c0, .slice pa m ca, .slice (some ⟨g, 0, none⟩) nm cap, .pointer (some ⟨b, 0, none⟩), .pointer (some ⟨b, 1, none⟩), .slice pp m cp, .func (.func 64) #[] #[.pointer (some ⟨Bk, 0, none⟩)], .int .i64 i, .int .i64 p, undef, undef, undef, undef, undef, undef, undef, undef, undef, undef, undef, undef, undef, undef, undef, undef, undef, undef, undef, undef, undef, undef, undef, undef, undef, undef, undef, undef, undef, undef], defers := [] }
/-- All blocks that were there are as they were, but two. -/
structure Keeps2 (g e : Nat) (W W' : World) : Prop where
  os : W'.os = W.os
  tape : W'.tape = W.tape
  output : W'.output = W.output
  size : W.heap.size ≤ W'.heap.size
  block : ∀ j, j < W.heap.size → j ≠ g → j ≠ e → W'.heap[j]? = W.heap[j]?
def safeW (g e : Nat) : Nat → Obj → Prop := fun bb o => o.isCells = true ∧ bb ≠ g ∧ bb ≠ e
theorem cells_of_cell {w : World} {b i : Nat} {v : Value} (h : w.cell? ⟨b, i, none⟩ = some v) : ∃ u, w.heap[b]? = some u ∧ u.isCells = true := by
  unfold World.cell? at h
  cases hb : w.heap[b]? with
  | none => rw [hb] at h; cases h
  | some u =>
    rw [hb] at h
    refine ⟨u, rfl, ?_⟩
    cases u <;> first | rfl | cases h
theorem flat_set1 : ∀ (R : List Int) (r : Nat) (y : Int), (R.flatMap cI).set r (.int .i64 y) = (R.set r y).flatMap cI
  | [], _, _ => rfl
  | _ :: _, 0, _ => rfl
  | x :: R, r + 1, y => by
    have := flat_set1 R r y
    show (Value.int .i64 x :: (R.flatMap cI).set r (.int .i64 y)) = Value.int .i64 x :: (R.set r y).flatMap cI
    rw [this]
theorem flat_set2 : ∀ (R : List It) (r : Nat) (y : It), ((R.flatMap It.cells).set (r * 2) (.int .i64 y.1)).set (r * 2 + 1) (.int .i64 y.2) = (R.set r y).flatMap It.cells
  | [], _, _ => rfl
  | _ :: _, 0, _ => rfl
  | x :: R, r + 1, y => by
    have := flat_set2 R r y
    rw [show (r + 1) * 2 = r * 2 + 1 + 1 from by omega, show r * 2 + 1 + 1 + 1 = (r * 2 + 1) + 1 + 1 from rfl]
    show (Value.int .i64 x.1 :: Value.int .i64 x.2 :: ((R.flatMap It.cells).set (r * 2) (.int .i64 y.1)).set (r * 2 + 1) (.int .i64 y.2)) = Value.int .i64 x.1 :: Value.int .i64 x.2 :: (R.set r y).flatMap It.cells
    rw [this]
theorem RowIs.set_I {e : TypeId} {g nm cap r : Nat} {W : World} {R : List Int} {y : Int} (h : RowIs cI 1 e g nm cap W R) (hr : r < nm) :
    (∃ u, W.cell? ⟨g, r, none⟩ = some u) ∧ W.frozen? ⟨g, r, none⟩ = false ∧ RowIs cI 1 e g nm cap (W.setCell ⟨g, r, none⟩ (.int .i64 y)) (R.set r y) ∧ W.grownBy (W.setCell ⟨g, r, none⟩ (.int .i64 y)) (some g) := by
  have h1 := h.row.stored r (.int .i64 y)
  have hl : (R.flatMap cI).length = nm * 1 := by rw [flat_len cI_len, h.len]
  refine ⟨?_, h.row.frozenAt r, ⟨by rw [List.length_set]; exact h.len, ?_⟩, h1.2⟩
  · rw [h.row.cellAt r (by omega), List.getElem?_eq_getElem (by omega)]
    exact ⟨_, rfl⟩
  · rw [← flat_set1]
    exact h1.1
theorem RowIs.set_T {e : TypeId} {g nm cap r : Nat} {W : World} {R : List It} {y : It} (h : RowIs It.cells 2 e g nm cap W R) (hr : r < nm) :
    (∃ u, W.cell? ⟨g, r * 2, none⟩ = some u) ∧ W.frozen? ⟨g, r * 2, none⟩ = false ∧ (∃ u, W.cell? ⟨g, r * 2 + 1, none⟩ = some u) ∧ W.frozen? ⟨g, r * 2 + 1, none⟩ = false ∧ RowIs It.cells 2 e g nm cap ((W.setCell ⟨g, r * 2, none⟩ (.int .i64 y.1)).setCell ⟨g, r * 2 + 1, none⟩ (.int .i64 y.2)) (R.set r y) ∧ W.grownBy ((W.setCell ⟨g, r * 2, none⟩ (.int .i64 y.1)).setCell ⟨g, r * 2 + 1, none⟩ (.int .i64 y.2)) (some g) := by
  have h1 := h.row.stored (r * 2) (.int .i64 y.1)
  have h2 := h1.1.stored (r * 2 + 1) (.int .i64 y.2)
  have hl : (R.flatMap It.cells).length = nm * 2 := by rw [flat_len cT_len, h.len]
  refine ⟨?_, h.row.frozenAt _, ?_, h.row.frozenAt _, ⟨by rw [List.length_set]; exact h.len, ?_⟩, h1.2.trans h2.2⟩
  · rw [h.row.cellAt _ (by omega), List.getElem?_eq_getElem (by omega)]
    exact ⟨_, rfl⟩
  · rw [h.row.cellAt _ (by omega), List.getElem?_eq_getElem (by omega)]
    exact ⟨_, rfl⟩
  · rw [← flat_set2]
    exact h2.1
/-- Where the stretch ends that is moved next. -/
def endOf (n m : Nat) (ps : Nat → Nat) (i : Nat) : Nat := if i < m then ps i else n
theorem world_os {w w' : World} (h : Below w.heap.size w w') : w'.os = w.os ∧ w'.tape = w.tape ∧ w'.output = w.output := ⟨h.os, h.tape, h.output⟩

/-- Between two rounds. -/
def InvWI (xs ys : List Int) (ps : Nat → Nat) (g nm cap E : Nat) (W5 : World) (k : Nat) (W : World) : Prop := ∃ R S, RowIs cI 1 3 g nm cap W R ∧ Mid xs (endOf xs.length ys.length ps (ys.length - k)) (ys.length - k) S R ∧ Back (fun x : Int => x) xs ys (endOf xs.length ys.length ps (ys.length - k)) (ys.length - k) S ∧ W.heap[E]? = some (.cells #[.int .i64 (endOf xs.length ys.length ps (ys.length - k))] 3 (0, 0)) ∧ Keeps2 g E W5 W

set_option maxRecDepth 100000 in
set_option maxHeartbeats 8000000 in
theorem weave_I (b ga gp ca cp : Nat) (sv : Value) (xs ys : List Int) (ps : Nat → Nat) (w : World)
    (hbox : w.heap[b]? = some (.cells #[.func (.func 11) #[] #[], sv] 71 (0, 0))) (hrow : w.ownsRow 0 3 1 sv xs.length (xs.flatMap cI)) (hm : 0 < ys.length) (hlen : xs.length + ys.length ≤ 1000000)
    (hga : ga < w.heap.size) (hgab : ga ≠ b) (hgas : some ga ≠ sv.ownBlock) (hya : ∀ j v, (ys.flatMap cI)[j]? = some v → w.cell? ⟨ga, j, none⟩ = some v)
    (hgp : gp < w.heap.size) (hgpb : gp ≠ b) (hgps : some gp ≠ sv.ownBlock) (hpa : ∀ i, i < ys.length → w.cell? ⟨gp, i, none⟩ = some (.int .i64 (ps i)))
    (hbeh : ∀ i (hi : i < ys.length), Behind (fun x : Int => x) xs ys[i] (ps i)) (hxs : xs.Pairwise (fun x y => (fun x : Int => x) x ≤ (fun x : Int => x) y)) (hys : ys.Pairwise (fun x y => (fun x : Int => x) x ≤ (fun x : Int => x) y)) :
    Calls Try.prog 52 #[.pointer (some ⟨b, 0, none⟩), .slice (some ⟨ga, 0, none⟩) ys.length ca, .slice (some ⟨gp, 0, none⟩) ys.length cp] w fun e w' => e = .returned (.tuple #[]) ∧
      ∃ g cap R, w'.heap[b]? = some (.cells #[.func (.func 11) #[] #[], .slice (some ⟨g, 0, none⟩) (xs.length + ys.length) cap] 71 (0, 0)) ∧ RowIs cI 1 3 g (xs.length + ys.length) cap w' R ∧ (sv.ownBlock = some g ∨ w.heap.size ≤ g) ∧ Ins (fun x : Int => x) xs ys R ∧ Touch b sv.ownBlock w w' := by
  obtain ⟨p0, c0, rfl⟩ : ∃ p c, sv = .slice p xs.length c := by
    rcases id hrow.2 with ⟨rfl, e⟩ | ⟨g, cap, cur, rfl, _⟩
    · exact ⟨none, 0, by rw [e]⟩
    · exact ⟨_, _, rfl⟩
  obtain ⟨i0, hi0, hz0, hz1, hz2⟩ := info_parts infoI
  -- the append
  have hbl2 : Below w.heap.size w (((w.alloc (.cells #[.pointer (some ⟨b, 0, none⟩)] 25)).alloc (.cells #[.slice (some ⟨ga, 0, none⟩) ys.length ca] 22)).alloc (.cells #[.int .i64 xs.length] 3)) := bA' (bA' (bA' (Below.refl _ _) (Nat.le_refl _) _) (by simp) _) (by rw [World.size_alloc, World.size_alloc]; omega) _
  have hs2 : ((((w.alloc (.cells #[.pointer (some ⟨b, 0, none⟩)] 25)).alloc (.cells #[.slice (some ⟨ga, 0, none⟩) ys.length ca] 22)).alloc (.cells #[.int .i64 xs.length] 3))).heap.size = w.heap.size + 3 := by simp
  have hbl2d : Below w.heap.size w ((((w.alloc (.cells #[.pointer (some ⟨b, 0, none⟩)] 25)).alloc (.cells #[.slice (some ⟨ga, 0, none⟩) ys.length ca] 22)).alloc (.cells #[.int .i64 xs.length] 3))).drew := ⟨hbl2.os, hbl2.tape, hbl2.output, hbl2.size, hbl2.block⟩
  have hrow2 : (((w.alloc (.cells #[.pointer (some ⟨b, 0, none⟩)] 25)).alloc (.cells #[.slice (some ⟨ga, 0, none⟩) ys.length ca] 22)).alloc (.cells #[.int .i64 xs.length] 3)).drew.ownsRow 0 3 1 (.slice p0 xs.length c0) xs.length (xs.flatMap cI) := row_below hrow hbl2d
  obtain ⟨g, cap, w3, hrun, hown3, hgrow, hat, hlt3⟩ := run_append_lies (P := Try.prog) ((((w.alloc (.cells #[.pointer (some ⟨b, 0, none⟩)] 25)).alloc (.cells #[.slice (some ⟨ga, 0, none⟩) ys.length ca] 22)).alloc (.cells #[.int .i64 xs.length] 3))).drew 22 22 0 3 i0 (.int .i64 0) 1 8 Try.underlying22 hi0 hz0 hz1 hz2 rfl (by decide) _ xs.length _ hrow2
    ⟨ga, 0, none⟩ ys.length ca (ys.flatMap cI) (flat_len cI_len ys) (fun j u hu => by
      have hadd : (⟨ga, 0, none⟩ : Addr).add j = ⟨ga, j, none⟩ := by unfold Addr.add; split <;> simp_all
      rw [hadd]
      exact kc' hbl2d (hya j u hu)) (fun u hu => by
      obtain ⟨x, _, hx⟩ := List.mem_flatMap.1 hu
      exact cI_one x u hx) hm (by unfold maxLen; omega) (by omega) (Nat.zero_le _) (w.heap.size + 3) (by rw [← hs2]; rfl)
  have hblt : b < w.heap.size := (Array.getElem?_eq_some_iff.1 hbox).1
  have hgb : g ≠ b := by
    rintro rfl
    rcases hat with e | e
    · rcases id hrow.2 with ⟨e2, _⟩ | ⟨g2, cap2, cur2, e2, _, hg2, _⟩
      · rw [e2] at e; cases e
      · rw [e2] at e
        have : g2 = g := by simpa [Value.ownBlock] using e
        subst this
        rw [hbox] at hg2
        cases hg2
    · omega
  have hgT : g ≠ w.heap.size := by
    rintro rfl
    rcases hat with e | e
    · exact absurd (hrow.lt _ e).2 (by omega)
    · omega
  have hgX : g ≠ w.heap.size + 1 := by
    rintro rfl
    rcases hat with e | e
    · exact absurd (hrow.lt _ e).2 (by omega)
    · omega
  have hgE : g ≠ w.heap.size + 2 := by
    rintro rfl
    rcases hat with e | e
    · exact absurd (hrow.lt _ e).2 (by omega)
    · omega
  have hgga : ga ≠ g := by
    rintro rfl
    rcases hat with e | e
    · exact hgas e.symm
    · omega
  have hggp : gp ≠ g := by
    rintro rfl
    rcases hat with e | e
    · exact hgps e.symm
    · omega
  have hobl : ∀ k, (Value.slice p0 xs.length c0).ownBlock = some k → k < w.heap.size := fun k e => (hrow.lt k e).2
  have hk3 : ∀ k, k < w.heap.size + 3 → some k ≠ (Value.slice p0 xs.length c0).ownBlock → w3.heap[k]? = ((((w.alloc (.cells #[.pointer (some ⟨b, 0, none⟩)] 25)).alloc (.cells #[.slice (some ⟨ga, 0, none⟩) ys.length ca] 22)).alloc (.cells #[.int .i64 xs.length] 3))).heap[k]? := fun k hk hne => hgrow.block k (by rw [← hs2] at hk; exact hk) hne
  have nsv : ∀ k, w.heap.size ≤ k → some k ≠ (Value.slice p0 xs.length c0).ownBlock := fun k hk e => by have := hobl k e.symm; omega
  have nb : some b ≠ (Value.slice p0 xs.length c0).ownBlock := fun e => by
    rcases id hrow.2 with ⟨e2, _⟩ | ⟨g2, cap2, cur2, e2, _, hg2, _⟩
    · rw [e2] at e; cases e
    · rw [e2] at e
      have : g2 = b := by simpa [Value.ownBlock] using e.symm
      subst this
      rw [hbox] at hg2
      cases hg2
  have T2 : ((((w.alloc (.cells #[.pointer (some ⟨b, 0, none⟩)] 25)).alloc (.cells #[.slice (some ⟨ga, 0, none⟩) ys.length ca] 22)).alloc (.cells #[.int .i64 xs.length] 3))).heap[w.heap.size]? = some (.cells #[.pointer (some ⟨b, 0, none⟩)] 25 (0, 0)) := by
    rw [Below.heap_alloc _ _ _ (by simp; omega), Below.heap_alloc _ _ _ (by simp)]
    exact World.alloc_heap_new w _
  have X2 : ((((w.alloc (.cells #[.pointer (some ⟨b, 0, none⟩)] 25)).alloc (.cells #[.slice (some ⟨ga, 0, none⟩) ys.length ca] 22)).alloc (.cells #[.int .i64 xs.length] 3))).heap[w.heap.size + 1]? = some (.cells #[.slice (some ⟨ga, 0, none⟩) ys.length ca] 22 (0, 0)) := by
    rw [Below.heap_alloc _ _ _ (by simp)]
    have := World.alloc_heap_new (w.alloc (.cells #[.pointer (some ⟨b, 0, none⟩)] 25)) (.cells #[.slice (some ⟨ga, 0, none⟩) ys.length ca] 22)
    rwa [World.size_alloc] at this
  have E2 : ((((w.alloc (.cells #[.pointer (some ⟨b, 0, none⟩)] 25)).alloc (.cells #[.slice (some ⟨ga, 0, none⟩) ys.length ca] 22)).alloc (.cells #[.int .i64 xs.length] 3))).heap[w.heap.size + 2]? = some (.cells #[.int .i64 xs.length] 3 (0, 0)) := by
    have := World.alloc_heap_new ((w.alloc (.cells #[.pointer (some ⟨b, 0, none⟩)] 25)).alloc (.cells #[.slice (some ⟨ga, 0, none⟩) ys.length ca] 22)) (.cells #[.int .i64 xs.length] 3)
    rwa [World.size_alloc, World.size_alloc] at this
  have b3 : w3.heap[b]? = some (.cells #[.func (.func 11) #[] #[], .slice p0 xs.length c0] 71 (0, 0)) := (hk3 b (by omega) nb).trans ((hbl2.block b hblt).trans hbox)
  obtain ⟨_, h31, h3f⟩ := cell_two b3
  have T3 := (hk3 w.heap.size (by omega) (nsv _ (Nat.le_refl _))).trans T2
  have X3 := (hk3 (w.heap.size + 1) (by omega) (nsv _ (by omega))).trans X2
  have E3 := (hk3 (w.heap.size + 2) (by omega) (nsv _ (by omega))).trans E2
  have h3t : w3.cell? ⟨w.heap.size, 0, none⟩ = some (.pointer (some ⟨b, 0, none⟩)) := by unfold World.cell?; rw [T3]; rfl
  -- behind the store of the row
  obtain ⟨w4, hw4⟩ : ∃ w4, w3.setCell ⟨b, 1, none⟩ (.slice (some ⟨g, 0, none⟩) (xs.length + ys.length) cap) = w4 := ⟨_, rfl⟩
  have k4 : ∀ k, k ≠ b → w4.heap[k]? = w3.heap[k]? := fun k hk => by rw [← hw4]; exact heap_setCell_other w3 ⟨b, 1, none⟩ k _ hk
  have s4 : w4.heap.size = w3.heap.size := by rw [← hw4]; simp
  have b4 : w4.heap[b]? = some (.cells #[.func (.func 11) #[] #[], .slice (some ⟨g, 0, none⟩) (xs.length + ys.length) cap] 71 (0, 0)) := by rw [← hw4]; exact heap_setCell_same w3 b 1 _ _ _ b3
  have r4 : RowIs cI 1 3 g (xs.length + ys.length) cap w4 (xs ++ ys) := RowIs.same ⟨by rw [List.length_append], by rw [List.flatMap_append]; exact hown3⟩ cI_len (k4 g hgb)
  have T4 := (k4 w.heap.size (by omega)).trans T3
  have X4 := (k4 (w.heap.size + 1) (by omega)).trans X3
  have E4 := (k4 (w.heap.size + 2) (by omega)).trans E3
  have o4 : ∀ k, k < w.heap.size → k ≠ b → some k ≠ (Value.slice p0 xs.length c0).ownBlock → w4.heap[k]? = w.heap[k]? := fun k hk h1 h2 => (k4 k h1).trans ((hk3 k (by omega) h2).trans (hbl2.block k hk))
  have m4 : w4.os = w.os ∧ w4.tape = w.tape ∧ w4.output = w.output := by
    rw [← hw4]
    exact ⟨hgrow.os.trans hbl2.os, hgrow.tape.trans hbl2.tape, hgrow.output.trans hbl2.output⟩
  have s43 : w.heap.size + 3 ≤ w4.heap.size := by rw [s4, ← hs2]; exact hgrow.size
  have HB := Lib.hid (show True from trivial)
  -- the walk
  obtain ⟨b0, b1, bf⟩ := cell_two hbox
  have hb3 : Below w.heap.size w ((w.alloc (.cells #[.pointer (some ⟨b, 0, none⟩)] 25)).alloc (.cells #[.slice (some ⟨ga, 0, none⟩) ys.length ca] 22)) := bA' (bA' (Below.refl _ _) (Nat.le_refl _) _) (by simp) _
  have a0 := kc' hb3 b0
  have a1 := kc' hb3 b1
  have a2 := kc' hbl2 b0
  have a3 := kc' hbl2 b1
  have t0 : ((((w.alloc (.cells #[.pointer (some ⟨b, 0, none⟩)] 25)).alloc (.cells #[.slice (some ⟨ga, 0, none⟩) ys.length ca] 22)).alloc (.cells #[.int .i64 xs.length] 3))).cell? ⟨w.heap.size, 0, none⟩ = some (.pointer (some ⟨b, 0, none⟩)) := by go_simp
  have t1 : ((((w.alloc (.cells #[.pointer (some ⟨b, 0, none⟩)] 25)).alloc (.cells #[.slice (some ⟨ga, 0, none⟩) ys.length ca] 22)).alloc (.cells #[.int .i64 xs.length] 3))).cell? ⟨w.heap.size + 1, 0, none⟩ = some (.slice (some ⟨ga, 0, none⟩) ys.length ca) := by go_simp
  have HP := Lib.hid (And.intro hw4 (And.intro b4 (And.intro r4 (And.intro T4 (And.intro X4 (And.intro E4 (And.intro o4 (And.intro m4 s43))))))))
  have HQ := Lib.hid (And.intro hya (And.intro hpa (And.intro hbeh (And.intro hxs (And.intro hys (And.intro hat (And.intro hgb (And.intro hgT (And.intro hgX (And.intro hgE (And.intro hgga hggp)))))))))))
  have HN := Lib.hid (And.intro hm (And.intro hlen (And.intro hblt (And.intro hga (And.intro hgab (And.intro hgas (And.intro hgp (And.intro hgpb (And.intro hgps hrow)))))))))
  clear hw4 b4 r4 T4 X4 E4 o4 m4 s43 hya hpa hbeh hxs hys hat hgb hgT hgX hgE hgga hggp hm hlen hblt hga hgab hgas hgp hgpb hgps hbox hrow hbl2 hs2 hbl2d hrow2 hown3 hgrow hlt3 hobl hk3 nsv nb T2 X2 E2 b3 T3 X3 E3 k4 s4 hi0 hz0 hz1 hz2 b0 b1 bf hb3 HB
  refine (callsIn_wide (n := 0)).1 ?_
  refine callsIn_of_wp_marks Try.func52 rfl trivial ?_ rfl
  simp only [Try.ntmps52, List.size_toArray, List.length_cons, List.length_nil, Nat.reduceAdd, Nat.reduceSub, Array.replicate_succ, Array.replicate_zero, List.push_toArray, List.append_toArray, List.nil_append, List.cons_append]
  have hmx : Try.prog.follows .mixedOrders = true := by kernel_rfl
  gi_wp2_with fail
  refine wpIn_mono (Q := NoPanic (fun e a' w' => e = .normal ∧ a' = act2 b xs.length ys.length ca cp c0 p0 (some ⟨ga, 0, none⟩) (some ⟨gp, 0, none⟩) w.heap.size g cap ∧ w' = w3.setCell ⟨b, 1, none⟩ (.slice (some ⟨g, 0, none⟩) (xs.length + ys.length) cap))) (wpIn_region_any hmx ?_) ?imp2
  case imp2 =>
    intro e a' w' h
    cases e with
    | panic c => exact (h : False).elim
    | normal =>
      obtain ⟨_, rfl, rfl⟩ := h
      clear hrun h31 h3f h3t a0 a1 a2 a3 t0 t1
      obtain ⟨hw4, b4, r4, T4, X4, E4, o4, m4, s43⟩ := HP.out
      rw [hw4]
      obtain ⟨hya, hpa, hbeh, hxs, hys, hat, hgb, hgT, hgX, hgE, hgga, hggp⟩ := HQ.out
      obtain ⟨hm, hlen, hblt, hga, hgab, hgas, hgp, hgpb, hgps, hrow⟩ := HN.out
      clear HP HQ HN
      obtain ⟨nm, hnm⟩ : ∃ nm, xs.length + ys.length = nm := ⟨_, rfl⟩
      have hlast : xs.length + ys.length = nm := hnm
      rw [hnm] at b4 r4
      clear hw4
      have HALL := Lib.hid (And.intro hya (And.intro hpa (And.intro hbeh (And.intro hxs (And.intro hys (And.intro hat (And.intro hm (And.intro hlen (And.intro hrow hlast)))))))))
      have HF := Lib.hid (And.intro b4 (And.intro r4 (And.intro T4 (And.intro X4 (And.intro E4 (And.intro o4 (And.intro m4 s43)))))))
      have HNE := Lib.hid (And.intro hgb (And.intro hgT (And.intro hgX (And.intro hgE (And.intro hgga (And.intro hggp (And.intro hblt (And.intro hga (And.intro hgab (And.intro hgas (And.intro hgp (And.intro hgpb hgps))))))))))))
      clear hya hpa hbeh hxs hys hat hm hlen hrow hlast b4 r4 T4 X4 E4 o4 m4 s43 hgb hgT hgX hgE hgga hggp hblt hga hgab hgas hgp hgpb hgps
      unfold act2
      rw [hnm]
      have HNM := Lib.hid hnm
      clear hnm
      gi_wp2_with fail
      refine ⟨trivial, rfl, ?_⟩
      refine callsIn_wide.2 ((backward_c (some ⟨gp, 0, none⟩) ys.length cp w4).mono ?_)
      rintro e w5 ⟨rfl, hw5⟩
      subst hw5
      gi_wp2_with fail
      obtain ⟨W5, hW5⟩ : ∃ W5, w4.alloc (.cells #[.slice (some ⟨gp, 0, none⟩) ys.length cp] 22) = W5 := ⟨_, rfl⟩
      rw [hW5]
      obtain ⟨hya, hpa, hbeh, hxs, hys, hat, hm, hlen, hrow, hnm⟩ := HALL.out
      obtain ⟨b4, r4, T4, X4, E4, o4, m4, s43⟩ := HF.out
      obtain ⟨hgb, hgT, hgX, hgE, hgga, hggp, hblt, hga, hgab, hgas, hgp, hgpb, hgps⟩ := HNE.out
      have k5 : ∀ k, k < w4.heap.size → W5.heap[k]? = w4.heap[k]? := fun k hk => by rw [← hW5]; exact Below.heap_alloc _ _ _ hk
      have s5 : W5.heap.size = w4.heap.size + 1 := by rw [← hW5]; simp
      have g4 : g < w4.heap.size := by
        obtain ⟨cur, hc, _⟩ := r4.whole
        exact (Array.getElem?_eq_some_iff.1 hc).1
      have bw5 : W5.heap[w4.heap.size]? = some (.cells #[.slice (some ⟨gp, 0, none⟩) ys.length cp] 22 (0, 0)) := by rw [← hW5]; exact World.alloc_heap_new w4 _
      have m5 : W5.os = w.os ∧ W5.tape = w.tape ∧ W5.output = w.output := by rw [← hW5]; exact m4
      have gp5 : W5.heap[gp]? = w.heap[gp]? := (k5 gp (by omega)).trans (o4 gp hgp hgpb hgps)
      have ga5 : W5.heap[ga]? = w.heap[ga]? := (k5 ga (by omega)).trans (o4 ga hga hgab hgas)
      have EG : ∀ args w, (callFunc 64 args).run Try.prog w = .ok (.enter 64 args) w := enters_of Try.func64 (by kernel_rfl) rfl
      have hseq := backward1_seq w4.heap.size ys.length cp (some ⟨gp, 0, none⟩) (fun i => (ps i : Int)) (safeW g (w.heap.size + 2)) W5 (by omega) bw5 ⟨rfl, by omega, by omega⟩ (fun i hi => by
        have hc := hpa i hi
        obtain ⟨u, hu, hcu⟩ := cells_of_cell hc
        exact ⟨gp, u, rfl, gp5.trans hu, ⟨hcu, hggp, by omega⟩, by rw [← hc]; exact World.cell?_of_block gp5⟩)
      refine range_law (gf := 64) (lb := #[.pointer (some ⟨w4.heap.size, 0, none⟩)]) rfl EG (fun bb o h => h.1) hseq (fun _ => rfl)
        (InvWI xs ys ps g nm cap (w.heap.size + 2) W5) (fun _ _ _ => False) ?hI ?hIx ?h0
        (fun k a' _ => ∃ i, i + k + 1 = ys.length ∧ a' = actR b xs.length ys.length ca cp c0 p0 (some ⟨ga, 0, none⟩) (some ⟨gp, 0, none⟩) w.heap.size g nm cap w4.heap.size i (ps i)) ?hAx ?assign ?body ?done ?stop
      case hI =>
        rintro k A C row ⟨R, S, h1, h2, h3, h4, h5⟩ hgr hr
        have ng : ∀ j, j < W5.heap.size → C.heap[j]? = A.heap[j]? := fun j hj => hgr.block j (by have := h5.size; omega) fun e => by have := (hr j e.symm).1; omega
        exact ⟨R, S, h1.same cI_len (ng g (by omega)), h2, h3, (ng _ (by omega)).trans h4, ⟨hgr.os.trans h5.os, hgr.tape.trans h5.tape, hgr.output.trans h5.output, Nat.le_trans h5.size hgr.size, fun j hj n1 n2 => (ng j hj).trans (h5.block j hj n1 n2)⟩⟩
      case hIx => rintro c s A C row h; exact h.elim
      case h0 =>
        have he : endOf xs.length ys.length ps (ys.length - 0) = xs.length := by unfold endOf; rw [if_neg (by omega)]
        refine ⟨xs ++ ys, [], r4.same cI_len (k5 g g4), ?_, ?_, ?_, ⟨rfl, rfl, rfl, Nat.le_refl _, fun _ _ _ _ => rfl⟩⟩
        · rw [he, Nat.sub_zero]
          exact ⟨⟨ys, by simp, rfl⟩⟩
        · rw [he, Nat.sub_zero]
          exact Back.start _ _ _
        · rw [he]
          exact (k5 _ (by omega)).trans E4
      case hAx =>
        rintro k a' s A C row h hgr hr
        exact h
      case assign =>
        rintro l k W K hj hk hsz hK
        obtain ⟨i, hi⟩ : ∃ i, i + k + 1 = ys.length := ⟨ys.length - 1 - k, by omega⟩
        have hz : (ys.length : Int) - 1 - (k : Int) = (i : Int) := by omega
        have hz2 : ys.length - 1 - k = i := by omega
        have HJ := Lib.hid (And.intro hj hi)
        simp only [hz, hz2]
        clear hya hpa hbeh hxs hys hat hm hlen hrow hnm b4 r4 T4 X4 E4 o4 m4 s43 hgb hgT hgX hgE hgga hggp hblt hga hgab hgas hgp hgpb hgps k5 s5 g4 bw5 m5 gp5 ga5 hseq hi hz hz2 hj EG hW5
        gi_wp2
        exact hK _ _ (Below.refl _ _) HJ.out.1 ⟨i, HJ.out.2, rfl⟩
      case stop => exact fun D c k W _ _ h _ => h.elim
      case done =>
        rintro D W hD ⟨R, S, h1, h2, h3, h4, h5⟩ hdef
        have H2 := Lib.hid (run_takeDeferred (P := Try.prog) hdef)
        have hDs := (Array.getElem?_eq_some_iff.1 hdef).1
        have he : endOf xs.length ys.length ps (ys.length - ys.length) = ps 0 := by rw [Nat.sub_self]; unfold endOf; rw [if_pos hm]
        rw [he] at h2 h3 h4
        rw [Nat.sub_self] at h2 h3
        have hb0 := hbeh 0 hm
        have hins := Ins.of h3 h2 hb0.1 hxs (fun x hx y hy => by
          obtain ⟨j, hj, rfl⟩ := List.getElem_of_mem hy
          have hx1 := hb0.2.1 x hx
          by_cases hj0 : j = 0
          · subst hj0
            exact hx1
          · exact Int.le_trans hx1 ((List.pairwise_iff_getElem.1 hys) 0 j hm hj (by omega)))
        have HEND := Lib.hid (show ∃ g cap R, (W.putObj D (.deferred none)).heap[b]? = some (.cells #[.func (.func 11) #[] #[], .slice (some ⟨g, 0, none⟩) nm cap] 71 (0, 0)) ∧ RowIs cI 1 3 g nm cap (W.putObj D (.deferred none)) R ∧ ((Value.slice p0 xs.length c0).ownBlock = some g ∨ w.heap.size ≤ g) ∧ Ins (fun x : Int => x) xs ys R ∧ Touch b (Value.slice p0 xs.length c0).ownBlock w (W.putObj D (.deferred none)) from by
          have po : ∀ j, j < W5.heap.size → (W.putObj D (.deferred none)).heap[j]? = W.heap[j]? := fun j hj => World.putObj_heap_other (by omega)
          refine ⟨g, cap, R, ((po b (by omega)).trans (h5.block b (by omega) (by omega) (by omega))).trans ((k5 b (by omega)).trans b4), h1.same cI_len (po g (by omega)), ?_, hins, ⟨h5.os.trans m5.1, h5.tape.trans m5.2.1, h5.output.trans m5.2.2, ?_, fun j hj n1 n2 => ?_⟩⟩
          · rcases hat with e | e
            · exact .inl e
            · exact .inr (by omega)
          · have := h5.size
            rw [show (W.putObj D (.deferred none)).heap.size = W.heap.size from by simp]
            omega
          · have hjg : j ≠ g := by
              rintro rfl
              rcases hat with e | e
              · exact n2 e.symm
              · omega
            exact ((po j (by omega)).trans (h5.block j (by omega) hjg (by omega))).trans ((k5 j (by omega)).trans (o4 j hj n1 n2)))
        clear hya hpa hbeh hxs hys hat hm hlen hrow b4 r4 T4 X4 E4 o4 m4 s43 hgb hgT hgX hgE hgga hggp hblt hga hgab hgas hgp hgpb hgps k5 s5 g4 bw5 m5 gp5 ga5 hseq EG hW5 h1 h2 h3 h4 h5 hdef he hb0 hins
        have HNM2 := Lib.hid hnm
        clear hnm
        gi_wp2
        refine ⟨by simp, .inl ⟨_, _, rfl, H2.out, ?_⟩⟩
        refine ⟨_, results_none rfl _ _ _, rfl, ?_⟩
        rw [HNM2.out]
        exact HEND.out
      case body =>
        rintro l k a' W ⟨R, S, h1, h2, h3, h4, h5⟩ hsz ⟨i, hik, rfl⟩ hk
        have hi : i < ys.length := by omega
        obtain ⟨y, hy⟩ : ∃ y, ys[i] = y := ⟨_, rfl⟩
        obtain ⟨p, hp⟩ : ∃ p, ps i = p := ⟨_, rfl⟩
        obtain ⟨e, he⟩ : ∃ e, endOf xs.length ys.length ps (i + 1) = e := ⟨_, rfl⟩
        rw [show ys.length - k = i + 1 from by omega, he] at h2 h3 h4
        have hbi := hbeh i hi
        rw [hy, hp] at hbi
        -- the stretch
        have hpe : p ≤ e := by
          rw [← he]
          unfold endOf
          by_cases hl : i + 1 < ys.length
          · rw [if_pos hl, ← hp]
            exact Behind.mono (hbeh i hi) (hbeh (i + 1) hl) ((List.pairwise_iff_getElem.1 hys) i (i + 1) hi hl (by omega))
          · rw [if_neg hl]
            exact hbi.1
        have hexs : e ≤ xs.length := by
          rw [← he]
          unfold endOf
          by_cases hl : i + 1 < ys.length
          · rw [if_pos hl]
            exact (hbeh (i + 1) hl).1
          · rw [if_neg hl]
            exact Nat.le_refl _
        have hafter : ∀ z ∈ ys.drop (i + 1), ∀ x ∈ xs.take e, (fun x : Int => x) x ≤ (fun x : Int => x) z := by
          intro z hz x hx
          obtain ⟨j, hj, rfl⟩ := List.mem_drop_iff_getElem.1 hz
          have hl : i + 1 < ys.length := by omega
          have he' : e = ps (i + 1) := by rw [← he]; unfold endOf; rw [if_pos hl]
          have hx1 := (hbeh (i + 1) hl).2.1 x (by rw [← he']; exact hx)
          by_cases hj0 : j = 0
          · subst hj0
            exact hx1
          · exact Int.le_trans hx1 ((List.pairwise_iff_getElem.1 hys) (i + 1) (i + 1 + j) hl (by omega) (by omega))
        obtain ⟨st1, st2, st3⟩ := h2.step (y := y) hpe hexs
        have st4 := h3.step (by rw [List.getElem?_eq_getElem hi, hy]) hpe hexs hbi hxs hys hafter
        have hRl := h1.len
        obtain ⟨r, hr⟩ : ∃ r, p + i = r := ⟨_, rfl⟩
        obtain ⟨r1, hr1⟩ : ∃ r1, r + 1 = r1 := ⟨_, rfl⟩
        rw [hr, hr1] at st2 st3
        obtain ⟨W1, kv, hrun, q1, q2, q3⟩ := copy_seg (T := 22) (ty := 3) (W := W.drew) cI_len cI_one Try.underlying22 (by kernel_rfl) (RowIs.same h1 cI_len rfl) hpe (r := r1) (by omega) (show e ≤ nm by omega)
        rw [st1] at q1
        have hka : ∀ j, j < w.heap.size → j ≠ b → some j ≠ (Value.slice p0 xs.length c0).ownBlock → j ≠ g → j ≠ w.heap.size + 2 → W.drew.heap[j]? = w.heap[j]? := fun j j1 j2 j3 j4 j5 => (h5.block j (by omega) j4 j5).trans ((k5 j (by omega)).trans (o4 j j1 j2 j3))
        have y1 : W.drew.cell? ⟨ga, i, none⟩ = some (.int .i64 y) := by
          have := hya i (.int .i64 y) (by
            have := flat_get cI_len ys i 0 hi (by omega)
            rw [Nat.mul_one, Nat.add_zero] at this
            rw [this, hy]
            rfl)
          rw [← this]
          exact World.cell?_of_block (hka ga hga hgab hgas hgga (by omega))
        have t1 : W.drew.heap[w.heap.size]? = some (.cells #[.pointer (some ⟨b, 0, none⟩)] 25 (0, 0)) := (h5.block _ (by omega) (by omega) (by omega)).trans ((k5 _ (by omega)).trans T4)
        have x1 : W.drew.heap[w.heap.size + 1]? = some (.cells #[.slice (some ⟨ga, 0, none⟩) ys.length ca] 22 (0, 0)) := (h5.block _ (by omega) (by omega) (by omega)).trans ((k5 _ (by omega)).trans X4)
        have bx1 : W.drew.heap[b]? = some (.cells #[.func (.func 11) #[] #[], .slice (some ⟨g, 0, none⟩) nm cap] 71 (0, 0)) := (h5.block _ (by omega) (by omega) (by omega)).trans ((k5 _ (by omega)).trans b4)
        have cw : ∀ (V : World) (bb : Nat) (u : Array Value) (ty : TypeId), V.heap[bb]? = some (.cells u ty (0, 0)) → ∀ j, V.cell? ⟨bb, j, none⟩ = u[j]? := fun V bb u ty h j => by unfold World.cell?; rw [h]; rfl
        have cf : ∀ (V : World) (bb : Nat) (u : Array Value) (ty : TypeId), V.heap[bb]? = some (.cells u ty (0, 0)) → ∀ j, V.frozen? ⟨bb, j, none⟩ = false := fun V bb u ty h j => by simp [World.frozen?, h]
        have k1 : ∀ j, j < W.heap.size → j ≠ g → W1.heap[j]? = W.drew.heap[j]? := fun j hj hne => q2.block j hj (by simpa using hne)
        have t2 := (k1 w.heap.size (by omega) (by omega)).trans t1
        have x2 := (k1 (w.heap.size + 1) (by omega) (by omega)).trans x1
        have bx2 := (k1 b (by omega) (by omega)).trans bx1
        have e2 := (k1 (w.heap.size + 2) (by omega) (by omega)).trans h4
        have f1 := cw _ _ _ _ t1 0
        have f2 := cw _ _ _ _ bx1 1
        have f3 := cw _ _ _ _ h4 0
        have f3' : W.drew.cell? ⟨w.heap.size + 2, 0, none⟩ = some (.int .i64 e) := f3
        have d1 : W1.drew.cell? ⟨w.heap.size, 0, none⟩ = some (.pointer (some ⟨b, 0, none⟩)) := cw _ _ _ _ t2 0
        have d2 : W1.drew.cell? ⟨b, 1, none⟩ = some (.slice (some ⟨g, 0, none⟩) nm cap) := cw _ _ _ _ bx2 1
        have d3 : W1.drew.cell? ⟨w.heap.size + 1, 0, none⟩ = some (.slice (some ⟨ga, 0, none⟩) ys.length ca) := cw _ _ _ _ x2 0
        have d4 : W1.drew.cell? ⟨ga, i, none⟩ = some (.int .i64 y) := (World.cell?_of_block (w := W.drew) (w' := W1.drew) (a := ⟨ga, i, none⟩) (k1 ga (by omega) hgga)).trans y1
        obtain ⟨z1, z1f, z2, z3⟩ := RowIs.set_I (W := W1.drew) (r := r) (y := y) (RowIs.same q1 cI_len rfl) (by omega)
        obtain ⟨u1, z1⟩ := z1
        have k2 : ∀ j, j ≠ g → (W1.drew.setCell ⟨g, r, none⟩ (.int .i64 y)).heap[j]? = W1.heap[j]? := fun j hj => heap_setCell_other W1.drew ⟨g, r, none⟩ j _ hj
        have e3 : (W1.drew.setCell ⟨g, r, none⟩ (.int .i64 y)).heap[w.heap.size + 2]? = some (.cells #[.int .i64 e] 3 (0, 0)) := (k2 _ (by omega)).trans e2
        have f4 : (W1.setCell ⟨g, r, none⟩ (.int .i64 y)).drew.cell? ⟨w.heap.size + 2, 0, none⟩ = some (.int .i64 e) := cw _ _ _ _ e3 0
        have f4f : (W1.setCell ⟨g, r, none⟩ (.int .i64 y)).drew.frozen? ⟨w.heap.size + 2, 0, none⟩ = false := cf _ _ _ _ e3 0
        have HEND := Lib.hid (show ∀ act, After (safeW g (w.heap.size + 2)) W5.heap.size (InvWI xs ys ps g nm cap (w.heap.size + 2) W5) (fun _ _ _ => False) (k + 1) W .normal act ((W1.drew.setCell ⟨g, r, none⟩ (.int .i64 y)).setCell ⟨w.heap.size + 2, 0, none⟩ (.int .i64 p)) from fun act => by
          have ke : ∀ j, j ≠ g → j ≠ w.heap.size + 2 → j < W.heap.size → ((W1.drew.setCell ⟨g, r, none⟩ (.int .i64 y)).setCell ⟨w.heap.size + 2, 0, none⟩ (.int .i64 p)).heap[j]? = W.heap[j]? := fun j n1 n2 hj => (heap_setCell_other _ ⟨w.heap.size + 2, 0, none⟩ j _ n2).trans ((k2 j n1).trans (k1 j hj n1))
          have hse : ((W1.drew.setCell ⟨g, r, none⟩ (.int .i64 y)).setCell ⟨w.heap.size + 2, 0, none⟩ (.int .i64 p)).heap.size = W.heap.size := by simp [q3]
          have hek : endOf xs.length ys.length ps (ys.length - (k + 1)) = p := by
            rw [show ys.length - (k + 1) = i from by omega]
            unfold endOf
            rw [if_pos hi, hp]
          refine ⟨⟨by rw [hse]; exact Nat.le_refl _, fun j o j1 j2 _ => (ke j (by omega) (by omega) (Array.getElem?_eq_some_iff.1 j2).1).trans j2⟩, ⟨by rw [hse]; exact Nat.le_refl _, fun j o j1 j2 => (ke j j1.2.1 j1.2.2 (Array.getElem?_eq_some_iff.1 j2).1).trans j2⟩, ?_⟩
          refine ⟨_, _, z2.same cI_len (heap_setCell_other _ ⟨w.heap.size + 2, 0, none⟩ g _ (by omega)), by rw [hek, show ys.length - (k + 1) = i from by omega]; exact st3, by rw [hek, show ys.length - (k + 1) = i from by omega]; exact st4, ?_, ?_⟩
          · rw [hek]
            exact heap_setCell_same _ (w.heap.size + 2) 0 _ _ _ e3
          · exact ⟨q2.os.trans h5.os, q2.tape.trans h5.tape, q2.output.trans h5.output, by rw [hse]; exact h5.size, fun j hj n1 n2 => (ke j n1 n2 (by have := h5.size; omega)).trans (h5.block j hj n1 n2)⟩)
        have hw1 : IntKind.i64.wrap ((p : Int) + (i : Int)) = (r : Int) := by rw [IntKind.wrap_i64] <;> omega
        have hw2 : IntKind.i64.wrap ((r : Int) + 1) = (r1 : Int) := by rw [IntKind.wrap_i64] <;> omega
        have l1 : (r1 : Int) ≤ (nm : Int) := by omega
        have l2 : (p : Int) ≤ (e : Int) := by omega
        have l3 : (e : Int) ≤ (cap : Int) := by
          obtain ⟨_, _, c1, _⟩ := h1.whole
          omega
        have l4 : (i : Int) < (ys.length : Int) := by omega
        have l5 : (r : Int) < (nm : Int) := by omega
        clear hya hpa hbeh hxs hys hat hm hlen hrow hnm b4 r4 T4 X4 E4 o4 m4 s43 hgb hgT hgX hgE hgga hggp hblt hga hgab hgas hgp hgpb hgps k5 s5 g4 bw5 m5 gp5 ga5 hseq EG hW5 h1 h2 h3 h4 h5 hsz hik hk hy hi he hbi hpe hexs hafter st1 st2 st3 st4 hRl hr hr1 q1 q2 q3 hka t1 x1 bx1 cw cf k1 t2 x2 bx2 e2 z2 k2 e3 f3
        obtain ⟨s1, hs1⟩ : ∃ v, sliced (some ⟨g, 0, none⟩) r1 nm cap 1 = v := ⟨_, rfl⟩
        obtain ⟨s2, hs2⟩ : ∃ v, sliced (some ⟨g, 0, none⟩) p e cap 1 = v := ⟨_, rfl⟩
        rw [hs1, hs2] at hrun
        have HS1 := Lib.hid hs1
        have HS2 := Lib.hid hs2
        clear hs1 hs2
        unfold actR
        rw [hp]
        clear hp
        gi_wp2_with fail
        refine region_quiet (fun _ => trivial) [.pointer (some ⟨b, 0, none⟩), .pointer (some ⟨b, 0, none⟩), .pointer (some ⟨b, 1, none⟩), .slice (some ⟨g, 0, none⟩) nm cap, .int .i64 p, .int .i64 i, .int .i64 r, .int .i64 r1, s1, .pointer (some ⟨b, 0, none⟩), .pointer (some ⟨b, 0, none⟩), .pointer (some ⟨b, 1, none⟩), .slice (some ⟨g, 0, none⟩) nm cap, .int .i64 p, .int .i64 e, s2] { tmps := #[.pointer (some ⟨b, 0, none⟩), .slice (some ⟨ga, 0, none⟩) ys.length ca, .slice (some ⟨gp, 0, none⟩) ys.length cp, .pointer (some ⟨w.heap.size, 0, none⟩), .pointer (some ⟨w.heap.size + 1, 0, none⟩), undef, .pointer (some ⟨w.heap.size + 1 + 1, 0, none⟩), .int .i64 i, .int .i64 p, .pointer (some ⟨b, 0, none⟩), .pointer (some ⟨b, 0, none⟩), .pointer (some ⟨b, 1, none⟩), .slice p0 xs.length c0, .int .i64 xs.length, .pointer (some ⟨b, 0, none⟩), .pointer (some ⟨b, 0, none⟩), .pointer (some ⟨b, 0, none⟩), .pointer (some ⟨b, 1, none⟩), .slice p0 xs.length c0, .slice (some ⟨ga, 0, none⟩) ys.length ca, .slice (some ⟨g, 0, none⟩) nm cap, .pointer (some ⟨b, 0, none⟩), .pointer (some ⟨b, 1, none⟩), .slice (some ⟨gp, 0, none⟩) ys.length cp, .func (.func 64) #[] #[.pointer (some ⟨w4.heap.size, 0, none⟩)], .int .i64 i, .int .i64 p, .pointer (some ⟨b, 0, none⟩), .pointer (some ⟨b, 0, none⟩), .pointer (some ⟨b, 1, none⟩), .slice (some ⟨g, 0, none⟩) nm cap, .int .i64 p, .int .i64 i, .int .i64 r, .int .i64 r1, s1, .pointer (some ⟨b, 0, none⟩), .pointer (some ⟨b, 0, none⟩), .pointer (some ⟨b, 1, none⟩), .slice (some ⟨g, 0, none⟩) nm cap, .int .i64 p, .int .i64 e, s2, undef, undef, undef, undef, undef, undef, undef, undef, undef, undef, undef, undef, undef, undef], defers := [] } hmx (by kernel_rfl) (by kernel_rfl) rfl (by kernel_rfl) ?rd ?last
        case rd =>
          have hs1 := HS1.out
          have hs2 := HS2.out
          subst hs1
          subst hs2
          clear HS1 HS2
          iterate 16 (refine ⟨?_, ?_⟩; rotate_left)
          exact trivial
          all_goals (go_simp; first | done | with_reducible rfl | skip)
        case last =>
          change Oper.wpIn _ _ _ (Oper.mk _ _ _ _ _ _) _ _ _ _
          refine oper_copy (fun _ => trivial) (.tmp 35) (.tmp 42) 22 rfl rfl rfl hrun ?_
          gi_wp2_with fail
          refine region_quiet (fun _ => trivial) [.pointer (some ⟨b, 0, none⟩), .pointer (some ⟨b, 0, none⟩), .pointer (some ⟨b, 1, none⟩), .slice (some ⟨g, 0, none⟩) nm cap, .int .i64 p, .int .i64 i, .int .i64 r, .slice (some ⟨ga, 0, none⟩) ys.length ca, .int .i64 i, .pointer (some ⟨ga, i, none⟩), (.int .i64 y), .pointer (some ⟨g, r, none⟩)] { tmps := #[.pointer (some ⟨b, 0, none⟩), .slice (some ⟨ga, 0, none⟩) ys.length ca, .slice (some ⟨gp, 0, none⟩) ys.length cp, .pointer (some ⟨w.heap.size, 0, none⟩), .pointer (some ⟨w.heap.size + 1, 0, none⟩), undef, .pointer (some ⟨w.heap.size + 1 + 1, 0, none⟩), .int .i64 i, .int .i64 p, .pointer (some ⟨b, 0, none⟩), .pointer (some ⟨b, 0, none⟩), .pointer (some ⟨b, 1, none⟩), .slice p0 xs.length c0, .int .i64 xs.length, .pointer (some ⟨b, 0, none⟩), .pointer (some ⟨b, 0, none⟩), .pointer (some ⟨b, 0, none⟩), .pointer (some ⟨b, 1, none⟩), .slice p0 xs.length c0, .slice (some ⟨ga, 0, none⟩) ys.length ca, .slice (some ⟨g, 0, none⟩) nm cap, .pointer (some ⟨b, 0, none⟩), .pointer (some ⟨b, 1, none⟩), .slice (some ⟨gp, 0, none⟩) ys.length cp, .func (.func 64) #[] #[.pointer (some ⟨w4.heap.size, 0, none⟩)], .int .i64 i, .int .i64 p, .pointer (some ⟨b, 0, none⟩), .pointer (some ⟨b, 0, none⟩), .pointer (some ⟨b, 1, none⟩), .slice (some ⟨g, 0, none⟩) nm cap, .int .i64 p, .int .i64 i, .int .i64 r, .int .i64 r1, s1, .pointer (some ⟨b, 0, none⟩), .pointer (some ⟨b, 0, none⟩), .pointer (some ⟨b, 1, none⟩), .slice (some ⟨g, 0, none⟩) nm cap, .int .i64 p, .int .i64 e, s2, kv, .pointer (some ⟨b, 0, none⟩), .pointer (some ⟨b, 0, none⟩), .pointer (some ⟨b, 1, none⟩), .slice (some ⟨g, 0, none⟩) nm cap, .int .i64 p, .int .i64 i, .int .i64 r, .slice (some ⟨ga, 0, none⟩) ys.length ca, .int .i64 i, .pointer (some ⟨ga, i, none⟩), (.int .i64 y), .pointer (some ⟨g, r, none⟩), undef], defers := [] } hmx (by kernel_rfl) (by kernel_rfl) rfl (by kernel_rfl) ?rd2 ?last2
          case rd2 =>
            iterate 12 (refine ⟨?_, ?_⟩; rotate_left)
            exact trivial
            all_goals (go_simp; first | done | with_reducible rfl | skip)
          case last2 =>
            change Oper.wpIn _ _ _ (Oper.mk _ _ _ _ _ _) _ _ _ _
            go_simp
            gi_wp2
            exact HEND.out _
    | _ => exact absurd h.1 (by simp)
  change wpAnyIn _ _ _ _ _ _ _ _ _ (World.drew _)
  iterate 10 (all_goals try (
    first
      | (refine wpAnyIn_take (i := 2) (v := ?_) rfl rfl (by kernel_rfl) (by decide +kernel) (by decide +kernel) (fun _ _ _ h => h) ⟨Or.inl ⟨by rfl, ?_⟩, fun _ => rfl⟩ ?_; rotate_left; focus (intro w; go_simp; first | done | with_reducible rfl))
      | (refine wpAnyIn_take (i := 3) (v := ?_) rfl rfl (by kernel_rfl) (by decide +kernel) (by decide +kernel) (fun _ _ _ h => h) ⟨Or.inl ⟨by rfl, ?_⟩, fun _ => rfl⟩ ?_; rotate_left; focus (intro w; go_simp; first | done | with_reducible rfl))
      | (refine wpAnyIn_take (i := 7) (v := ?_) rfl rfl (by kernel_rfl) (by decide +kernel) (by decide +kernel) (fun _ _ _ h => h) ⟨Or.inl ⟨by rfl, ?_⟩, fun _ => rfl⟩ ?_; rotate_left; focus (intro w; go_simp; first | done | with_reducible rfl))
      | (refine wpAnyIn_take (i := 8) (v := ?_) rfl rfl (by kernel_rfl) (by decide +kernel) (by decide +kernel) (fun _ _ _ h => h) ⟨Or.inl ⟨by rfl, ?_⟩, fun _ => rfl⟩ ?_; rotate_left; focus (intro w; go_simp; first | done | with_reducible rfl))
      | (
        (first
          | (refine wpAnyIn_ready (rs := [0, 1, 5]) (by decide +kernel) (by simp) ?_)
          | (refine wpAnyIn_ready (rs := [0, 4, 5]) (by decide +kernel) (by simp) ?_)
          | (refine wpAnyIn_ready (rs := [0, 1]) (by decide +kernel) (by simp) ?_)
          | (refine wpAnyIn_ready (rs := [0, 4]) (by decide +kernel) (by simp) ?_)
          | (refine wpAnyIn_ready (rs := [0, 5]) (by decide +kernel) (by simp) ?_)
          | (refine wpAnyIn_ready (rs := [0, 6]) (by decide +kernel) (by simp) ?_)
          | (refine wpAnyIn_ready (rs := [1, 5]) (by decide +kernel) (by simp) ?_)
          | (refine wpAnyIn_ready (rs := [4, 5]) (by decide +kernel) (by simp) ?_)
          | (refine wpAnyIn_ready (rs := [0]) (by decide +kernel) (by simp) ?_)
          | (refine wpAnyIn_ready (rs := [1]) (by decide +kernel) (by simp) ?_)
          | (refine wpAnyIn_ready (rs := [4]) (by decide +kernel) (by simp) ?_)
          | (refine wpAnyIn_ready (rs := [5]) (by decide +kernel) (by simp) ?_)
          | (refine wpAnyIn_ready (rs := [6]) (by decide +kernel) (by simp) ?_)
          | (refine wpAnyIn_ready (rs := [9]) (by decide +kernel) (by simp) ?_)
          | fail)
        (try (refine AllReadyIn.cons rfl (fun K hK => ?_) ?_; rotate_left))
        (try (refine AllReadyIn.cons rfl (fun K hK => ?_) ?_; rotate_left))
        (try (refine AllReadyIn.cons rfl (fun K hK => ?_) ?_; rotate_left))
        (try exact AllReadyIn.nil)
        all_goals (first | (go_simp; refine hK _ _ ?_; clear hK K) | (refine step_run rfl (.tmp 18) (.tmp 19) 22 rfl rfl rfl hrun ?_; refine hK _ _ ?_; clear hK K)))))
  all_goals refine wpAnyIn_done (by kernel_rfl) ?_ _
  all_goals exact ⟨rfl, rfl, rfl⟩
end Go.Proofs.Ytfjipkkhjjpaiaa
