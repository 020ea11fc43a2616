/-
  slices.AppendSeq and slices.Collect over this seat's translation: the list of all that an iterator hands out. Conditions: those that each theorem states.
-/
import Derived.Test.YtbgpipdbnjoeeaaDoorSeqE
namespace Go.Proofs.YtbgpipdbnjoeeaaDoor
open Go.RowKit Go.Shelf Go.ChangeShapes Go.WideShapes Go.ChangeAt Go.Deep Go.Maps
attribute [local go_sem] Oper.semAt_some

theorem step_run {F : Fence} {n : Nat} {P : Program} {ops : Array Oper} {o : Oper} {a : Act} {w w' : World} {K : Act → World → Prop} {Q : Exit → Act → World → Prop} {E : Prop}
    (hg : o.guard = none) (s x : Operand) (t : TypeId) (ho : o.op = .call { callee := .builtin .append, args := #[s, x], argTypes := #[t, t] })
    {v1 v2 v' : Value} (hs : a.eval s = v1) (hx : a.eval x = v2) (hr : (Builtin.append_ #[t, t] o.type #[v1, v2]).run P w = .ok v' w') (h : K (a.put o.dst v') w') :
    if Region.wanted o (yielded ops a.tmps) = true then Oper.wpIn F n P o a w K Q else E := by
  have hw : Region.wanted o (yielded ops a.tmps) = true := by simp [Region.wanted, hg]
  rw [if_pos hw]
  unfold Oper.wpIn
  refine ⟨by simp [Oper.about, ho, resolve, Target.leads, Sem.run_pure], ?_⟩
  rw [Oper.semAt_plain F _ _ (by rw [ho]; intro c hc'; cases hc')]
  simp [execOp, ho, resolve, invoke, builtin, hs, hx, hr, Result.andThen]
  exact h
theorem app_run {B Bs : Nat} {w Wq : World} {q : List XV} {v : Value} (hw : w.heap.size ≤ B) (hB : B ≤ Bs) (hv : Wq.heap[Bs]? = some (.cells #[v] 22 (0, 0))) (hrow : Wq.ownsRow B 24 4 v q.length (cells4 q)) (hbl : Below w.heap.size w Wq) (hn : q.length + 1 ≤ 1000) :
    ∃ g cap w3, (Builtin.append_ #[22, 22] 22 #[v, .slice (some ⟨Wq.heap.size, 0, none⟩) 1 1]).run Tryd.prog ((Wq.alloc (.cells #[.int .i64 0, .int .i64 0, .string ⟨#[]⟩, .slice none 0 0] 24)).drew) = .ok (.slice (some ⟨g, 0, none⟩) (q.length + 1) cap) w3 ∧ Mid B Bs w Wq w3 q v g cap ∧ q.length + 1 ≤ cap ∧ cap ≤ maxLen := by
  obtain ⟨i0, hi0, hz0, hz1, hz2⟩ := info_parts infoVal
  have hlt := (Array.getElem?_eq_some_iff.1 hv).1
  have hmx : maxLen = 9223372036854775807 := rfl
  obtain ⟨v', w3, hr, hown, hg, hnil, hat⟩ := run_append_own_at (P := Tryd.prog) (Wq.drew.alloc (.cells #[.int .i64 0, .int .i64 0, .string ⟨#[]⟩, .slice none 0 0] 24)) B 22 22 24 i0 _ 4 56 Tryd.underlying22 hi0 hz0 hz1 hz2 rfl (by decide) v q.length (cells4 q) (hrow.drew.alloc _)
    ⟨Wq.heap.size, 0, none⟩ 1 1 [.int .i64 0, .int .i64 0, .string ⟨#[]⟩, .slice none 0 0] rfl (by
      have := World.ownsRow_lit (base := 0) (e := 24) (size := 4) Wq.drew #[.int .i64 0, .int .i64 0, .string ⟨#[]⟩, .slice none 0 0] 1 (by omega) (by omega) rfl
      exact this.cells (g := Wq.heap.size) rfl) (by
      intro u hu
      simp only [List.mem_cons, List.not_mem_nil, or_false] at hu
      rcases hu with rfl | rfl | rfl | rfl <;> rfl) (by omega) (by omega) (by
      show B ≤ (Wq.drew.alloc _).heap.size
      have : Wq.drew.heap.size = Wq.heap.size := rfl
      simp only [World.size_alloc]
      omega)
  obtain ⟨g, cap, rfl⟩ := ownsRow_succ hown
  have hcap : q.length + 1 ≤ cap ∧ cap ≤ maxLen := by
    rcases hown.2 with ⟨e, _⟩ | ⟨g', cap', cur, e, _, _, h1, h2, _⟩
    · cases e
    · injection e with _ _ e
      subst e
      exact ⟨h1, h2⟩
  have hsz : (Wq.drew.alloc (.cells #[.int .i64 0, .int .i64 0, .string ⟨#[]⟩, .slice none 0 0] 24)).heap.size = Wq.heap.size + 1 := by simp only [World.size_alloc]; rfl
  have hsame : ∀ b, b < Wq.heap.size → v.ownBlock ≠ some b → w3.heap[b]? = Wq.heap[b]? := fun b hb hne => (hg.block b (by omega) (fun e => hne e.symm)).trans (heap_alloc_old Wq.drew _ hb)
  refine ⟨g, cap, w3, hr, ⟨hown, (hsame Bs hlt (row_ne hrow hv)).trans hv, hsame, ?_, ?_, ?_⟩, hcap.1, hcap.2⟩
  · rcases hat with h | h
    · exact .inl h.symm
    · right
      have : g = Wq.heap.size + 1 := by rw [hsz] at h; simpa [Value.ownBlock] using h
      omega
  · have h1 : Below w.heap.size w (Wq.drew.alloc (.cells #[.int .i64 0, .int .i64 0, .string ⟨#[]⟩, .slice none 0 0] 24)) := bA hbl.drew _
    exact h1.grown hg h1.size fun k e => by have := (hrow.lt k e).1; omega
  · have := hg.size
    omega

/-- The temporaries of a round of AppendSeq. -/
def actE (Bs gf : Nat) (lb : Array Value) (x : XV) (bx : Nat) : Act :=
  { tmps := #[.slice none 0 0, .func (.func gf) #[] lb, .pointer (some ⟨Bs, 0, none⟩), undef, .slice none 0 0, .pointer (some ⟨bx, 0, none⟩), .func (.func gf) #[] lb, .agg #[.int .i64 x.1.k, .int .i64 x.1.n, .string x.1.s, x.2], undef, undef, undef, undef, undef, undef, undef], defers := [] }

/-- A new list of what came. -/
def Came (full : List VT) (w : World) (e : Ending) (w' : World) : Prop :=
  ∃ (ov : Value) (q : List XV), e = .returned ov ∧ q.map Prod.fst = full ∧ w'.ownsRow w.heap.size 24 4 ov q.length (cells4 q) ∧ (∀ x ∈ q, VT.In w' x.1 x.2) ∧ Below w.heap.size w w'

theorem got_own (w : World) {B0 : Nat} (hB0 : w.heap.size ≤ B0) : OwnFrom B0 (fun (q : List XV) Wq => Got w.heap.size w.heap.size w q Wq) := by
  rintro q A C row ⟨v, h1, h2, h3, h4⟩ hgr hr
  have hsz := (Array.getElem?_eq_some_iff.1 h1).1
  refine ⟨v, cells_grown h1 hgr hr, h2.kept hgr ?_, fun x hx => (h3 x hx).keep (Kept.grown (safeO_safe w.heap.size) (by omega) hgr fun r e => (hr r e).2), h4.grown hgr h4.size fun k e => by have := (hr k e).1; omega⟩
  cases row with
  | none =>
    cases hv : v.ownBlock with
    | none => exact .inl rfl
    | some g => exact .inr (by simp)
  | some r =>
    refine .inr fun e => ?_
    obtain ⟨_, u, hu, hc⟩ := hr r rfl
    rcases h2.2 with ⟨rfl, _⟩ | ⟨g, cap, cur, rfl, _, hg, _⟩
    · cases e
    · have : g = r := by simpa [Value.ownBlock] using e
      subst this
      rw [hg] at hu
      cases hu
      cases hc

set_option maxRecDepth 100000 in
set_option maxHeartbeats 4000000 in
theorem appendSeq_c (gf : Nat) (lb : Array Value) (eg : ∀ args w, (callFunc gf args).run Tryd.prog w = .ok (.enter gf args) w) (full : List VT) (hfl : full.length ≤ 1000) (w : World)
    (hseq : ∀ W0, W0 = w.alloc (.cells #[.slice none 0 0] 22) → Seq gf lb full (safeO w.heap.size) W0) :
    Calls Tryd.prog 18 #[.slice none 0 0, .func (.func gf) #[] lb] w (Came full w) := by
  obtain ⟨W0, hW0⟩ : ∃ W0, w.alloc (.cells #[.slice none 0 0] 22) = W0 := ⟨_, rfl⟩
  have hs0 : W0.heap.size = w.heap.size + 1 := by rw [← hW0]; simp
  have hv0 : W0.heap[w.heap.size]? = some (.cells #[.slice none 0 0] 22 (0, 0)) := hW0 ▸ World.alloc_heap_new w _
  have hb0 : Below w.heap.size w W0 := hW0 ▸ bA (Below.refl _ w) _
  have HSEQ := Lib.hid (hseq W0 hW0.symm)
  have HW0 := Lib.hid hW0
  have HEG := Lib.hid eg
  have HV0 := Lib.hid hv0
  have HB0 := Lib.hid hb0
  have hsafe : Safe (safeO w.heap.size) W0.heap.size := hs0 ▸ safeO_safe w.heap.size
  clear hseq hW0 eg hv0 hb0
  refine (callsIn_wide (n := 0)).1 ?_
  refine callsIn_of_wp_marks Tryd.func18 rfl trivial ?_ rfl
  simp only [Tryd.ntmps18, List.size_toArray, List.length_cons, List.length_nil, Nat.reduceAdd, Nat.reduceSub, Array.replicate_succ, Array.replicate_zero, List.push_toArray, List.append_toArray, List.nil_append, List.cons_append]
  gi_wp2
  rw [HW0.out]
  refine range_law (gf := gf) (lb := lb) (full := full) (safe := safeO w.heap.size) rfl HEG.out hsafe HSEQ.out rfl
    (fun q Wq => Got w.heap.size w.heap.size w q Wq) (fun _ _ _ => False) ?hI ?hIx ⟨_, HV0.out, World.ownsRow_nil _ _ _ _, by simp, HB0.out⟩
    (fun x a' Wq => ∃ bx, a' = actE w.heap.size gf lb x bx ∧ Wq.heap[bx]? = some (.cells #[.int .i64 x.1.k, .int .i64 x.1.n, .string x.1.s, x.2] 24 (0, 0)) ∧ safeO w.heap.size Wq bx (.cells #[.int .i64 x.1.k, .int .i64 x.1.n, .string x.1.s, x.2] 24 (0, 0))) ?hAx ?assign ?body ?done ?stop
  case hI => exact got_own w (by omega)
  case hIx => rintro c s A C row h; exact h.elim
  case hAx =>
    rintro x a' s A C row ⟨bx, e, hb, hs⟩ hgr hr
    obtain ⟨_, _, v, hc, _⟩ := id hs
    obtain ⟨u, hu, _⟩ := lt_of_cell0 hc
    have := (Array.getElem?_eq_some_iff.1 hu).1
    exact ⟨bx, e, cells_grown hb hgr hr, (safeO_safe w.heap.size).grown A C row bx _ (by omega) hgr (fun r e => (hr r e).2) hs hb⟩
  case assign =>
    rintro l2 q x Wq K hj hx hszq hK
    obtain ⟨tx, sx⟩ := x
    obtain ⟨px, cx, h⟩ := hx.plain.slice
    have h : sx = .slice px tx.len cx := h
    subst h
    obtain ⟨v, h1, h2, h3, h4⟩ := hj
    have hlt := (Array.getElem?_eq_some_iff.1 h1).1
    have hbq : Below Wq.heap.size Wq (Wq.alloc (.cells #[.int .i64 tx.k, .int .i64 tx.n, .string tx.s, .slice px tx.len cx] 24)) := bA (Below.refl _ Wq) _
    have hI : Got w.heap.size w.heap.size w q (Wq.alloc (.cells #[.int .i64 tx.k, .int .i64 tx.n, .string tx.s, .slice px tx.len cx] 24)) :=
      ⟨v, (hbq.block _ hlt).trans h1, h2.alloc _, fun x hx => (h3 x hx).keep (Kept.below (safeO_safe w.heap.size) (by omega) hbq), bA h4 _⟩
    have hsn : safeO w.heap.size (Wq.alloc (.cells #[.int .i64 tx.k, .int .i64 tx.n, .string tx.s, .slice px tx.len cx] 24)) Wq.heap.size (.cells #[.int .i64 tx.k, .int .i64 tx.n, .string tx.s, .slice px tx.len cx] 24 (0, 0)) :=
      ⟨rfl, by omega, v, (cell_box ((hbq.block _ hlt).trans h1)).1, fun e => by have := (h2.lt _ e).2; omega, fun g e => Nat.lt_of_lt_of_le (h2.lt g e).2 hbq.size⟩
    have H1 := Lib.hid (And.intro hI (And.intro hsn hbq))
    clear hI hsn hbq h1 h2 h3 h4 hx
    gi_wp2
    exact hK _ _ H1.out.2.2 H1.out.1 ⟨Wq.heap.size, rfl, World.alloc_heap_new Wq _, H1.out.2.1⟩
  case body =>
    rintro l2 q x a' Wq hj hx hszq hmem ⟨bx, rfl, hbxq, hbs⟩ hlen
    obtain ⟨tx, sx⟩ := x
    obtain ⟨px, cx, h⟩ := hx.plain.slice
    have h : sx = .slice px tx.len cx := h
    subst h
    obtain ⟨v, h1, h2, h3, h4⟩ := hj
    obtain ⟨p0, c0, rfl⟩ : ∃ p c, v = .slice p q.length c := by
      rcases h2.2 with ⟨rfl, e⟩ | ⟨g, cap, cur, rfl, _⟩
      · exact ⟨none, 0, by rw [e]⟩
      · exact ⟨_, _, rfl⟩
    obtain ⟨g, cap, w3, hrun, hmid, hc1, hc2⟩ := app_run (Nat.le_refl _) (Nat.le_refl _) h1 h2 h4 (by omega)
    have hlt := (Array.getElem?_eq_some_iff.1 h1).1
    have hltx := (Array.getElem?_eq_some_iff.1 hbxq).1
    obtain ⟨b0, f0⟩ := cell_box h1
    have hmx : maxLen = 9223372036854775807 := rfl
    have hbl1 : Below Wq.heap.size Wq (Wq.drew.alloc (.cells #[.int .i64 0, .int .i64 0, .string ⟨#[]⟩, .slice none 0 0] 24)) := bA ((Below.refl _ Wq).drew) _
    -- the box and the item, in each world of the region
    have b1 := kc hbl1 b0
    obtain ⟨b3, f3⟩ := cell_box hmid.box
    have hx3 := (hmid.same bx hltx (by
      obtain ⟨_, _, v', e1, e2, _⟩ := hbs
      rw [b0] at e1
      cases e1
      exact e2)).trans hbxq
    have cw : ∀ (V : World) (u : Array Value) (ty : TypeId), V.heap[bx]? = some (.cells u ty (0, 0)) → ∀ i, V.cell? ⟨bx, i, none⟩ = u[i]? := fun V u ty h i => by unfold World.cell?; rw [h]; rfl
    have x0 := cw _ _ _ hbxq 0
    have x1 := cw _ _ _ hbxq 1
    have x2 := cw _ _ _ hbxq 2
    have x3 := cw _ _ _ hbxq 3
    have y0 := cw _ _ _ ((hbl1.block _ hltx).trans hbxq) 0
    have y1 := cw _ _ _ ((hbl1.block _ hltx).trans hbxq) 1
    have y2 := cw _ _ _ ((hbl1.block _ hltx).trans hbxq) 2
    have y3 := cw _ _ _ ((hbl1.block _ hltx).trans hbxq) 3
    have z0 := cw _ _ _ hx3 0
    have z1 := cw _ _ _ hx3 1
    have z2 := cw _ _ _ hx3 2
    have z3 := cw _ _ _ hx3 3
    have hcl := cells4_len q
    have r0 : w3.cell? ⟨g, q.length * 4, none⟩ = some (.int .i64 0) := by rw [hmid.row.cellAt _ (by omega), List.getElem?_append_right (by omega), show q.length * 4 - (cells4 q).length = 0 from by omega]; rfl
    have r1 : w3.cell? ⟨g, q.length * 4 + 1, none⟩ = some (.int .i64 0) := by rw [hmid.row.cellAt _ (by omega), List.getElem?_append_right (by omega), show q.length * 4 + 1 - (cells4 q).length = 1 from by omega]; rfl
    have r2 : w3.cell? ⟨g, q.length * 4 + 2, none⟩ = some (.string ⟨#[]⟩) := by rw [hmid.row.cellAt _ (by omega), List.getElem?_append_right (by omega), show q.length * 4 + 2 - (cells4 q).length = 2 from by omega]; rfl
    have r3 : w3.cell? ⟨g, q.length * 4 + 3, none⟩ = some (.slice none 0 0) := by rw [hmid.row.cellAt _ (by omega), List.getElem?_append_right (by omega), show q.length * 4 + 3 - (cells4 q).length = 3 from by omega]; rfl
    have fr0 := hmid.row.frozenAt (q.length * 4)
    have fr1 := hmid.row.frozenAt (q.length * 4 + 1)
    have fr2 := hmid.row.frozenAt (q.length * 4 + 2)
    have fr3 := hmid.row.frozenAt (q.length * 4 + 3)
    have hgb : g ≠ w.heap.size := fun e => row_ne hmid.row hmid.box (by simp [Value.ownBlock, e])
    have hgb' : w.heap.size ≠ g := Ne.symm hgb
    have hidx : (q.length : Int) < (q.length : Int) + 1 := by omega
    have HMID := Lib.hid hmid
    have HXS := Lib.hid (show ∀ y ∈ q ++ [((tx, .slice px tx.len cx) : XV)], VT.InS (safeO w.heap.size) Wq y.1 y.2 from fun y hy => by
      rcases List.mem_append.1 hy with h | h
      · exact h3 y h
      · rw [List.mem_singleton] at h
        subst h
        exact hx)
    have HROW := Lib.hid (show ∀ g, (Value.slice p0 q.length c0).ownBlock = some g → ∃ o : Obj, Wq.heap[g]? = some o ∧ o.isCells = true from fun g e => by
      rcases h2.2 with ⟨e', _⟩ | ⟨g', cap', cur, e', _, hg, _⟩
      · rw [e'] at e; cases e
      · rw [e'] at e
        have : g' = g := by simpa [Value.ownBlock] using e
        subst this
        exact ⟨_, hg, rfl⟩)
    have HX := Lib.hid (And.intro h1 (And.intro h2 (And.intro h3 (And.intro h4 hx))))
    have HF1 := Lib.hid (show ∀ act, After (safeO w.heap.size) W0.heap.size (fun (q : List XV) Wq => Got w.heap.size w.heap.size w q Wq) (fun (_ : Code) (_ : List XV) (_ : World) => False) (q ++ [(tx, .slice px tx.len cx)]) Wq .normal act (((((w3.setCell ⟨g, q.length * 4, none⟩ (.int .i64 tx.k)).setCell ⟨g, q.length * 4 + 1, none⟩ (.int .i64 tx.n)).setCell ⟨g, q.length * 4 + 2, none⟩ (.string tx.s)).setCell ⟨g, q.length * 4 + 3, none⟩ (.slice px tx.len cx)).setCell ⟨w.heap.size, 0, none⟩ (.slice (some ⟨g, 0, none⟩) (q.length + 1) cap)) from fun act => Fin.after (B0 := W0.heap.size) HX.out.1 HXS.out (by omega) HROW.out (Mid.fin1 (tx, .slice px tx.len cx) (Nat.le_refl _) (Nat.le_refl _) HMID.out))
    have HF2 := Lib.hid (show ∀ act, After (safeO w.heap.size) W0.heap.size (fun (q : List XV) Wq => Got w.heap.size w.heap.size w q Wq) (fun (_ : Code) (_ : List XV) (_ : World) => False) (q ++ [(tx, .slice px tx.len cx)]) Wq .normal act (((((w3.setCell ⟨w.heap.size, 0, none⟩ (.slice (some ⟨g, 0, none⟩) (q.length + 1) cap)).setCell ⟨g, q.length * 4, none⟩ (.int .i64 tx.k)).setCell ⟨g, q.length * 4 + 1, none⟩ (.int .i64 tx.n)).setCell ⟨g, q.length * 4 + 2, none⟩ (.string tx.s)).setCell ⟨g, q.length * 4 + 3, none⟩ (.slice px tx.len cx)) from fun act => Fin.after (B0 := W0.heap.size) HX.out.1 HXS.out (by omega) HROW.out (Mid.fin2 (tx, .slice px tx.len cx) (Nat.le_refl _) (Nat.le_refl _) HMID.out))
    clear hmid hx3 cw hbxq hbs h1 h2 h3 h4 hx hbl1 hlen hmem
    have hmx' : Tryd.prog.follows .mixedOrders = true := by kernel_rfl
    unfold actE
    gi_wp2_with fail
    refine wpIn_region_any (by assumption) ?_
    change wpAnyIn _ _ _ _ _ _ _ _ _ (World.drew _)
    iterate 4 (all_goals (
      (first | (refine wpAnyIn_ready (rs := [0, 1, 3]) (by decide +kernel) (by simp) ?_) | (refine wpAnyIn_ready (rs := [1, 2, 3]) (by decide +kernel) (by simp) ?_) | (refine wpAnyIn_ready (rs := [0, 1]) (by decide +kernel) (by simp) ?_) | (refine wpAnyIn_ready (rs := [0, 3]) (by decide +kernel) (by simp) ?_) | (refine wpAnyIn_ready (rs := [1, 3]) (by decide +kernel) (by simp) ?_) | (refine wpAnyIn_ready (rs := [1, 2]) (by decide +kernel) (by simp) ?_) | (refine wpAnyIn_ready (rs := [2, 3]) (by decide +kernel) (by simp) ?_) | (refine wpAnyIn_ready (rs := [0]) (by decide +kernel) (by simp) ?_) | (refine wpAnyIn_ready (rs := [1]) (by decide +kernel) (by simp) ?_) | (refine wpAnyIn_ready (rs := [2]) (by decide +kernel) (by simp) ?_) | (refine wpAnyIn_ready (rs := [3]) (by decide +kernel) (by simp) ?_) | fail)
      (try (refine AllReadyIn.cons rfl (fun K hK => ?_) ?_; rotate_left))
      (try (refine AllReadyIn.cons rfl (fun K hK => ?_) ?_; rotate_left))
      (try (refine AllReadyIn.cons rfl (fun K hK => ?_) ?_; rotate_left))
      (try exact AllReadyIn.nil)
      all_goals (go_simp; refine hK _ _ ?_; clear hK K)))
    all_goals (
      refine wpAnyIn_ready (rs := [4]) (by decide +kernel) (by simp) ?_
      refine AllReadyIn.cons rfl (fun K hK => ?_) AllReadyIn.nil
      refine step_run rfl (.tmp 8) (.tmp 11) 22 rfl rfl rfl hrun ?_
      refine hK _ _ ?_
      clear hK K)
    iterate 3 (all_goals (
      (first | (refine wpAnyIn_ready (rs := [5]) (by decide +kernel) (by simp) ?_) | (refine wpAnyIn_ready (rs := [5, 7]) (by decide +kernel) (by simp) ?_) | (refine wpAnyIn_ready (rs := [6, 7]) (by decide +kernel) (by simp) ?_) | (refine wpAnyIn_ready (rs := [6]) (by decide +kernel) (by simp) ?_) | (refine wpAnyIn_ready (rs := [7]) (by decide +kernel) (by simp) ?_) | fail)
      (try (refine AllReadyIn.cons rfl (fun K hK => ?_) ?_; rotate_left))
      (try (refine AllReadyIn.cons rfl (fun K hK => ?_) ?_; rotate_left))
      (try exact AllReadyIn.nil)
      all_goals (go_simp; refine hK _ _ ?_; clear hK K)))
    all_goals refine wpAnyIn_done (by kernel_rfl) ?_ _
    all_goals gi_wp2
    all_goals with_reducible first
      | exact HF1.out _
      | exact HF2.out _
  case done =>
    rintro D xs Wq hD hxs hj hDk
    obtain ⟨v, h1, _⟩ := id hj
    obtain ⟨c0, f0⟩ := cell_box h1
    have H1 := Lib.hid ((got_own w (B0 := W0.heap.size) (by omega)).putObj (.deferred none) hj hD hDk rfl)
    have H2 := Lib.hid (run_takeDeferred (P := Tryd.prog) hDk)
    have H3 := Lib.hid hxs
    have H4 := Lib.hid h1
    clear f0 hxs hDk hj h1
    gi_wp2
    refine ⟨by simp, .inl ⟨_, _, rfl, H2.out, ?_⟩⟩
    obtain ⟨v', h1, h2, h3, h4⟩ := H1.out
    rw [World.putObj_heap_other (by omega), H4.out] at h1
    have e : v = v' := by
      injection h1 with h1
      injection h1 with h1
      injection h1 with h1
      injection h1
    subst e
    exact ⟨_, results_tmp rfl _ _ _, v, xs, rfl, H3.out, h2, fun x hx => (h3 x hx).plain, h4⟩
  case stop => rintro D c q Wq hD hq h; exact h.elim
end Go.Proofs.YtbgpipdbnjoeeaaDoor
