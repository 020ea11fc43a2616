/-
  The contract of package stamp over this seat's translation: Least of slices.Values. Conditions: those that each theorem states.
-/
import Derived.Test.YtmkclkppolfpnaaDoorMG
import Derived.Test.YtmkclkppolfpnaaDoorStVals
namespace Go.Proofs.YtmkclkppolfpnaaDoor
open Go.RowKit Go.Shelf Go.Lib Go.Sort
attribute [local go_sem] Oper.semAt_some

abbrev cmpSt (x y : St) : Int := sCmp x.1 x.2.1 x.2.2 y.1 y.2.1 y.2.2
/-- The least of the first stamps of a list. -/
def bestS (pl : Nat → St) : Nat → St
  | 0 => (1, 0, 0)
  | k + 1 => if cmpSt (pl k) (bestS pl k) < 0 then pl k else bestS pl k
abbrev In3S (x : St) : Prop := In3 x.1 x.2.1 x.2.2
theorem bestS_in {pl : Nat → St} : ∀ {k : Nat}, (∀ i, i < k → In3S (pl i)) → In3S (bestS pl k)
  | 0, _ => by
    unfold bestS
    exact ⟨by decide, by decide, by decide⟩
  | k + 1, h => by
    unfold bestS
    split
    · exact h k (by omega)
    · exact bestS_in fun i hi => h i (by omega)
abbrev boxS (x : St) : Obj := .cells #[.int .i64 x.1, .int .i64 x.2.1, .int .i64 x.2.2] 27 (0, 0)
/-- What Least holds. -/
structure LeI (w : World) (bl : Nat) (x : St) (W : World) : Prop where
  below : Below w.heap.size w W
  res : W.heap[w.heap.size]? = some (boxS (0, 0, 0))
  lst : W.heap[bl]? = some (boxS x)
theorem LeI.keep {w A C : World} {bl : Nat} {x : St} (h : LeI w bl x A) (hb : Below A.heap.size A C) : LeI w bl x C := ⟨bT' h.below hb h.below.size, kbT h.res hb, kbT h.lst hb⟩
theorem LeI.grown {w A C : World} {bl B : Nat} {x : St} {row : Option Nat} (h : LeI w bl x A) (hB : w.heap.size ≤ B) (hgr : A.grownBy C row) (hr : ∀ b, row = some b → B ≤ b ∧ ∃ o, A.heap[b]? = some o ∧ o.isCells = false) : LeI w bl x C := by
  have hk : ∀ (b : Nat) (cur : Array Value) (t : TypeId) (fr : Nat × Nat), A.heap[b]? = some (Obj.cells cur t fr) → C.heap[b]? = A.heap[b]? := fun b cur t fr hb => hgr.block b (Array.getElem?_eq_some_iff.1 hb).1 fun e => by
    obtain ⟨_, o, ho, hc⟩ := hr b e.symm
    rw [hb] at ho
    cases ho
    cases hc
  exact ⟨⟨hgr.os.trans h.below.os, hgr.tape.trans h.below.tape, hgr.output.trans h.below.output, Nat.le_trans h.below.size hgr.size, fun j hj => (hgr.block j (by have := h.below.size; omega) fun e => by have := (hr j e.symm).1; omega).trans (h.below.block j hj)⟩, (hk _ _ _ _ h.res).trans h.res, (hk _ _ _ _ h.lst).trans h.lst⟩
theorem LeI.put {w V : World} {bl : Nat} {y : St} (h : LeI w bl y V) (hb : w.heap.size < bl) (x : St) :
    LeI w bl x (((V.setCell ⟨bl, 0, none⟩ (.int .i64 x.1)).setCell ⟨bl, 1, none⟩ (.int .i64 x.2.1)).setCell ⟨bl, 2, none⟩ (.int .i64 x.2.2)) ∧
    ∀ j, j ≠ bl → (((V.setCell ⟨bl, 0, none⟩ (.int .i64 x.1)).setCell ⟨bl, 1, none⟩ (.int .i64 x.2.1)).setCell ⟨bl, 2, none⟩ (.int .i64 x.2.2)).heap[j]? = V.heap[j]? := by
  have hh : ∀ j, j ≠ bl → (((V.setCell ⟨bl, 0, none⟩ (.int .i64 x.1)).setCell ⟨bl, 1, none⟩ (.int .i64 x.2.1)).setCell ⟨bl, 2, none⟩ (.int .i64 x.2.2)).heap[j]? = V.heap[j]? := fun j hj => ((heap_setCell_other _ ⟨bl, 2, none⟩ j _ hj).trans (heap_setCell_other _ ⟨bl, 1, none⟩ j _ hj)).trans (heap_setCell_other _ ⟨bl, 0, none⟩ j _ hj)
  exact ⟨⟨⟨h.below.os, h.below.tape, h.below.output, by simpa using h.below.size, fun j hj => (hh j (by omega)).trans (h.below.block j hj)⟩, (hh _ (by omega)).trans h.res, heap_setCell_same _ bl 2 _ _ _ (heap_setCell_same _ bl 1 _ _ _ (heap_setCell_same _ bl 0 _ _ _ h.lst))⟩, hh⟩
/-- The temporaries of a round. -/
def actLe (w : World) (bl Bv : Nat) (x : St) (bx : Nat) : Act :=
  { tmps := #[.func (.func 39) #[] #[.pointer (some ⟨Bv, 0, none⟩)], undef, .pointer (some ⟨w.heap.size, 0, none⟩), .pointer (some ⟨bl, 0, none⟩), .pointer (some ⟨bx, 0, none⟩), stV 1 0 0, .func (.func 39) #[] #[.pointer (some ⟨Bv, 0, none⟩)], .bool false, undef, .func (.func 39) #[] #[.pointer (some ⟨Bv, 0, none⟩)], St.v x, undef, undef, undef, undef, undef], defers := [] }

set_option maxRecDepth 100000 in
set_option maxHeartbeats 8000000 in
theorem pleast_c (Bv n cap : Nat) (p : Option Addr) (pl : Nat → St) (w : World) (hn : n ≤ 1000) (hin : ∀ i, i < n → In3S (pl i))
    (hbox : w.heap[Bv]? = some (.cells #[.slice p n cap] 48 (0, 0)))
    (hrow : ∀ i, i < n → ∃ g off u, p = some ⟨g, off, none⟩ ∧ w.heap[g]? = some u ∧ u.isCells = true ∧ w.cell? ⟨g, off + i * 3, none⟩ = some (.int .i64 (pl i).1) ∧ w.cell? ⟨g, off + i * 3 + 1, none⟩ = some (.int .i64 (pl i).2.1) ∧ w.cell? ⟨g, off + i * 3 + 2, none⟩ = some (.int .i64 (pl i).2.2)) :
    Calls Tryd.prog 22 #[.func (.func 39) #[] #[.pointer (some ⟨Bv, 0, none⟩)]] w fun e w' => e = .returned (St.v (bestS pl n)) ∧ Below w.heap.size w w' := by
  have EG : ∀ args w, (callFunc 39 args).run Tryd.prog w = .ok (.enter 39 args) w := enters_of Tryd.func39 (by kernel_rfl) rfl
  have hnil : ∀ W : World, (binOp BinOp.eql 51 (.func (.func 39) #[] #[.pointer (some ⟨Bv, 0, none⟩)]) .nilFunc).run Tryd.prog W = .ok (.bool false) W := fun _ => by kernel_rfl
  have hlb := (Array.getElem?_eq_some_iff.1 hbox).1
  have HR := Lib.hid (And.intro hbox (And.intro hrow (And.intro hn hin)))
  have hnew := World.alloc_heap_new w (.cells #[.int .i64 0, .int .i64 0, .int .i64 0] 27)
  have HN := Lib.hid (And.intro hnew (bA' (Below.refl w.heap.size w) (Nat.le_refl _) (.cells #[.int .i64 0, .int .i64 0, .int .i64 0] 27)))
  clear hbox hrow hn hin hnew
  refine (callsIn_wide (n := 0)).1 ?_
  refine callsIn_of_wp_marks Tryd.func22 rfl trivial ?_ rfl
  simp only [Tryd.ntmps22, List.size_toArray, List.length_cons, List.length_nil, Nat.reduceAdd, Nat.reduceSub, Array.replicate_succ, Array.replicate_zero, List.push_toArray, List.append_toArray, List.nil_append, List.cons_append]
  gi_wp2_with fail
  refine ⟨trivial, rfl, ?_⟩
  refine callsIn_wide.2 ((pnever_c _).mono ?_)
  rintro e w2 ⟨rfl, hb2⟩
  obtain ⟨W0, hW0⟩ : ∃ W0, w2.alloc (.cells #[.int .i64 1, .int .i64 0, .int .i64 0] 27) = W0 := ⟨_, rfl⟩
  obtain ⟨bl, hbl⟩ : ∃ b, w2.heap.size = b := ⟨_, rfl⟩
  have hba : Below w2.heap.size w2 W0 := hW0 ▸ bA' (Below.refl _ _) (Nat.le_refl _) _
  have hi0 : LeI w bl (1, 0, 0) W0 := by
    refine ⟨bT' (bT' HN.out.2 hb2 HN.out.2.size) hba (by have := HN.out.2.size; have := hb2.size; omega), kbT (kbT HN.out.1 hb2) hba, ?_⟩
    rw [← hW0, ← hbl]
    exact World.alloc_heap_new w2 _
  have hbs : w.heap.size < bl := by
    have := hb2.size
    rw [World.size_alloc] at this
    omega
  have hs0 : bl < W0.heap.size := (Array.getElem?_eq_some_iff.1 hi0.lst).1
  have HW := Lib.hid (And.intro hW0 hbl)
  have HI := Lib.hid (And.intro hi0 (And.intro hbs hs0))
  clear hW0 hbl hba hi0 hbs hs0 hb2
  gi_wp2_with fail
  rw [HW.out.1]
  simp only [HW.out.2]
  have hseq := values1_seq Bv n cap p pl (fun b o => o.isCells = true ∧ b < w.heap.size) W0 (by have := HR.out.2.2.1; omega) ((HI.out.1.below.block Bv hlb).trans HR.out.1) ⟨rfl, hlb⟩ (fun i hi => by
    obtain ⟨g, off, u, hp, hu, hc, e0, e1, e2⟩ := HR.out.2.1 i hi
    have hg := (Array.getElem?_eq_some_iff.1 hu).1
    have hgb := HI.out.1.below.block g hg
    exact ⟨g, off, u, hp, hgb.trans hu, ⟨hc, hg⟩, by rw [← e0]; exact World.cell?_of_block hgb, by rw [← e1]; exact World.cell?_of_block hgb, by rw [← e2]; exact World.cell?_of_block hgb⟩)
  refine range_law (gf := 39) (pre := #[]) (lb := #[.pointer (some ⟨Bv, 0, none⟩)]) rfl EG (fun bb o h => h.1) hseq (fun _ => rfl)
    (fun k W => LeI w bl (bestS pl k) W) (fun _ _ _ => False) ?hI ?hIx HI.out.1 (fun k a' W => ∃ bx, a' = actLe w bl Bv (pl k) bx ∧ W.heap[bx]? = some (boxS (pl k)) ∧ bx ≠ bl) ?hAx ?assign ?body ?done ?stop
  case hI => exact fun k A C row h hgr hr => h.grown (by have := HI.out.2; omega) hgr hr
  case hIx => rintro c s A C row h; exact h.elim
  case hAx =>
    rintro k a' s A C row ⟨bx, e, hb, hne⟩ hgr hr
    exact ⟨bx, e, (hgr.block bx (Array.getElem?_eq_some_iff.1 hb).1 fun e => by
      obtain ⟨_, o, ho, hc⟩ := hr bx e.symm
      rw [hb] at ho
      cases ho
      cases hc).trans hb, hne⟩
  case stop => exact fun D c k W _ _ h _ => h.elim
  case assign =>
    rintro l k W K hj hk hsz hK
    have hbq := bA' (Below.refl W.heap.size W) (Nat.le_refl _) (.cells #[.int .i64 (pl k).1, .int .i64 (pl k).2.1, .int .i64 (pl k).2.2] 27)
    have H1 := Lib.hid (And.intro (hj.keep hbq) (And.intro hbq (show W.heap.size ≠ bl from by have := (Array.getElem?_eq_some_iff.1 hj.lst).1; omega)))
    have HKK := Lib.hid hK
    clear hj hK hbq hseq
    gi_wp2
    exact HKK.out _ _ H1.out.2.1 H1.out.1 ⟨W.heap.size, rfl, World.alloc_heap_new W _, H1.out.2.2⟩
  case body =>
    rintro l k a' W hj hsz ⟨bx, rfl, hbx, hne⟩ hk
    have hx1 := HR.out.2.2.2 k hk
    have hy1 := bestS_in (pl := pl) (k := k) (fun i hi => HR.out.2.2.2 i (by omega))
    have hnext : bestS pl (k + 1) = if cmpSt (pl k) (bestS pl k) < 0 then pl k else bestS pl k := rfl
    obtain ⟨x, hx⟩ : ∃ x, pl k = x := ⟨_, rfl⟩
    obtain ⟨y, hy⟩ : ∃ y, bestS pl k = y := ⟨_, rfl⟩
    rw [hx] at hbx hx1 hnext ⊢
    rw [hy] at hj hy1 hnext
    have KL := Lib.hid (pless_c x.1 x.2.1 x.2.2 y.1 y.2.1 y.2.2 hx1 hy1)
    obtain ⟨x0, x1, x2⟩ := cells3 hbx (Below.refl _ _)
    obtain ⟨y0, y1, y2⟩ := cells3 hj.lst (Below.refl _ _)
    have HJ := Lib.hid (And.intro hj (And.intro hbx (And.intro hne hnext)))
    clear hj hbx hne hnext hx1 hy1 hseq hx hy hsz
    unfold actLe
    gi_wp2_with fail
    refine ⟨trivial, rfl, ?_⟩
    refine (CallsIn.inRound l (callsIn_wide.2 (KL.out _))).mono ?_
    rintro e W3 ⟨rfl, hb3⟩
    have hj3 := HJ.out.1.keep hb3
    have hbx3 := kbT HJ.out.2.1 hb3
    have H3 := Lib.hid (And.intro hj3 (And.intro hbx3 hb3))
    clear x0 x1 x2 y0 y1 y2 hb3
    by_cases hlt : cmpSt x y < 0
    · have hd : decide (sCmp x.1 x.2.1 x.2.2 y.1 y.2.1 y.2.2 < 0) = true := decide_eq_true hlt
      rw [hd]
      obtain ⟨x0, x1, x2⟩ := cells3 hbx3 (Below.refl _ _)
      obtain ⟨y0, y1, y2⟩ := cells3 hj3.lst (Below.refl _ _)
      have f0 := frozen_of_row _ bl 0 _ _ hj3.lst
      have f1 := frozen_of_row _ bl 1 _ _ hj3.lst
      have f2 := frozen_of_row _ bl 2 _ _ hj3.lst
      have hn2 := HJ.out.2.2.2
      rw [if_pos hlt] at hn2
      have HN2 := Lib.hid hn2
      clear hj3 hbx3 hlt hd hn2
      gi_wp2
      obtain ⟨hp1, hp2⟩ := H3.out.1.put HI.out.2.1 x
      refine ⟨⟨by have := H3.out.2.2.size; simpa using this, fun b u hb hu hc => (hp2 b (by have := HI.out.2.2; omega)).trans ((H3.out.2.2.block b (Array.getElem?_eq_some_iff.1 hu).1).trans hu)⟩, ⟨by have := H3.out.2.2.size; simpa using this, fun b u hs hu => (hp2 b (by have := HI.out.2.1; have := hs.2; omega)).trans ((H3.out.2.2.block b (Array.getElem?_eq_some_iff.1 hu).1).trans hu)⟩, ?_⟩
      show LeI w bl (bestS pl (k + 1)) _
      rw [HN2.out]
      exact hp1
    · have hd : decide (sCmp x.1 x.2.1 x.2.2 y.1 y.2.1 y.2.2 < 0) = false := decide_eq_false hlt
      rw [hd]
      have hn2 := HJ.out.2.2.2
      rw [if_neg hlt] at hn2
      have HN2 := Lib.hid hn2
      clear hj3 hbx3 hlt hd hn2
      gi_wp2
      refine ⟨⟨H3.out.2.2.size, fun b u hb hu hc => (H3.out.2.2.block b (Array.getElem?_eq_some_iff.1 hu).1).trans hu⟩, Kept.below H3.out.2.2, ?_⟩
      show LeI w bl (bestS pl (k + 1)) _
      rw [HN2.out]
      exact H3.out.1
  case done =>
    rintro D W hD hj hdef
    have hsz := HI.out.2
    obtain ⟨x, hx⟩ : ∃ x, bestS pl n = x := ⟨_, rfl⟩
    replace hj : LeI w bl (bestS pl n) W := hj
    rw [hx] at hj
    have HX := Lib.hid hx
    obtain ⟨y0, y1, y2⟩ := cells3 hj.lst (Below.refl _ _)
    obtain ⟨z0, z1, z2⟩ := cells3 hj.res (Below.refl _ _)
    have f0 := frozen_of_row _ w.heap.size 0 _ _ hj.res
    have f1 := frozen_of_row _ w.heap.size 1 _ _ hj.res
    have f2 := frozen_of_row _ w.heap.size 2 _ _ hj.res
    have HJ := Lib.hid (And.intro hj (And.intro hdef (show w.heap.size < D from by omega)))
    clear hj hdef hD hseq hx hsz
    gi_wp2
    have hD := HJ.out.2.2
    have hj := HJ.out.1
    have hsz := HI.out.2
    have hne : D ≠ w.heap.size := by omega
    refine ⟨by simp, .inl ⟨_, _, rfl, run_takeDeferred (by first | exact HJ.out.2.1 | (rw [heap_setCell_other _ _ _ _ hne, heap_setCell_other _ _ _ _ hne, heap_setCell_other _ _ _ _ hne]; exact HJ.out.2.1)), ?_⟩⟩
    have hr4 := heap_setCell_same _ w.heap.size 2 _ _ (.int .i64 x.2.2) (heap_setCell_same _ w.heap.size 1 _ _ (.int .i64 x.2.1) (heap_setCell_same _ w.heap.size 0 _ _ (.int .i64 x.1) hj.res))
    have hr5 : ((((W.setCell ⟨w.heap.size, 0, none⟩ (.int .i64 x.1)).setCell ⟨w.heap.size, 1, none⟩ (.int .i64 x.2.1)).setCell ⟨w.heap.size, 2, none⟩ (.int .i64 x.2.2)).putObj D (.deferred none)).heap[w.heap.size]? = some (boxS x) := (World.putObj_heap_other hne.symm).trans hr4
    obtain ⟨r0, r1, r2⟩ := cells3 hr5 (Below.refl _ _)
    refine ⟨St.v x, by simp [results, Tryd.results22, go_sem, r0, r1, r2], by rw [HX.out], hj.below.os, hj.below.tape, hj.below.output, by have := hj.below.size; simpa using this, fun j hjj => ?_⟩
    refine (World.putObj_heap_other (by omega)).trans ?_
    exact (((heap_setCell_other _ ⟨w.heap.size, 2, none⟩ j _ (by show j ≠ w.heap.size; omega)).trans (heap_setCell_other _ ⟨w.heap.size, 1, none⟩ j _ (by show j ≠ w.heap.size; omega))).trans (heap_setCell_other _ ⟨w.heap.size, 0, none⟩ j _ (by show j ≠ w.heap.size; omega))).trans (hj.below.block j hjj)
end Go.Proofs.YtmkclkppolfpnaaDoor
