/-
  gavottelaw07's of, same and told over this seat's translation: told from what All answers. Conditions: those that each theorem states.
-/
import Derived.Test.YtibphmddepfgjaaR7B
import Derived.Test.YtibphmddepfgjaaQuSeqP
import Derived.Maps.OwnIn
import Derived.BigQuiet
namespace Go.Proofs.Ytibphmddepfgjaa.Tr
open Go.RowKit Go.Shelf Go.Lib Go.Sort
attribute [local go_sem] Oper.semAt_some

set_option maxHeartbeats 1000000 in
theorem of7_c (n d c : Int) (w : World) : Calls Try.prog 11 #[stV n d c] w fun e w' => e = .returned (stV n d c) ∧ Below w.heap.size w w' := by
  have HB := Lib.hid (bA' (bA' (Below.refl w.heap.size w) (Nat.le_refl _) (.cells #[.int .i64 n, .int .i64 d, .int .i64 c] 26)) (by simp) (.cells #[.int .i64 n, .int .i64 d, .int .i64 c] 33))
  go_enter Try.func11, Try.ntmps11
  go_wp2
  exact bodyPost_ret (v := stV n d c) (by simp [results, Try.results11, go_sem]) rfl ⟨rfl, HB.out⟩

set_option maxHeartbeats 4000000 in
set_option maxRecDepth 100000 in
theorem same_c (L : List En) (p q : Option Addr) (c1 c2 : Nat) (W : World) (hp : FlatE W p L) (hq : FlatE W q L) (hn : L.length ≤ 4000000) :
    Calls Try.prog 15 #[.slice p L.length c1, .slice q L.length c2] W fun e w' => e = .returned (.bool true) ∧ Below W.heap.size W w' := by
  have HP := Lib.hid (And.intro hp (And.intro hq hn))
  have hne : ((L.length : Int) != (L.length : Int)) = false := by simp
  have hee : ((L.length : Int) == (L.length : Int)) = true := by simp
  clear hp hq hn
  go_enter Try.func15, Try.ntmps15
  go_wp2
  go_loopw [5] (fun iv wr => ∃ k : Nat, iv = .int .i64 k ∧ k ≤ L.length ∧ Hid (Below W.heap.size W wr)) (fun v _ => L.length - (intOf v).toNat)
  case atStart => exact ⟨0, rfl, Nat.zero_le _, Lib.hid (Below.refl _ _)⟩
  case round =>
    obtain ⟨k, rfl, hk, HB⟩ := hrel
    by_cases hlt : k < L.length
    · have hkz : (k : Int) < (L.length : Int) := by omega
      have hk0 : (0 : Int) ≤ (k : Int) := by omega
      have hri : IntKind.i64.wrap ((k : Int) + 1) = ((k + 1 : Nat) : Int) := by rw [IntKind.wrap_i64]; have := HP.out.2.2; omega
      obtain ⟨e, he⟩ : ∃ e, L[k]? = some e := ⟨_, List.getElem?_eq_getElem hlt⟩
      obtain ⟨g, off, rfl, e0, e1, e2, e3⟩ := (HP.out.1.keep HB.out).in k e he
      obtain ⟨g2, off2, rfl, f0, f1, f2, f3⟩ := (HP.out.2.1.keep HB.out).in k e he
      have HL := Lib.hid hlt
      clear he hlt hk
      go_wp2_with fail
      go_quiet (fail)
      have HB2 := Lib.hid (show Below W.heap.size W (wr.drewN nq) from belowT HB.out (belowN (Below.refl _ _) _))
      clear e0 e1 e2 e3 f0 f1 f2 f3
      go_wp2
      exact ⟨⟨k + 1, rfl, HL.out, HB2⟩, by have := HL.out; simp [intOf]; omega⟩
    · have hkz : ¬ ((k : Int) < (L.length : Int)) := by omega
      go_wp2
      go_ret
      exact ⟨rfl, HB.out⟩

/-- What told has collected so far. -/
structure ToI (w : World) (hi bs : Nat) (L : List En) (k : Nat) (v : Value) (W : World) : Prop where
  box : W.heap[bs]? = some (.cells #[v] 35 (0, 0))
  row : RowE W w.heap.size v (L.take k)
  far : ∀ g, v.ownBlock = some g → hi ≤ g
  below : Below w.heap.size w W
theorem ownsRow_cells {W : World} {B n sz : Nat} {e : TypeId} {v : Value} {xs : List Value} (h : W.ownsRow B e sz v n xs) {g : Nat} (hg : v.ownBlock = some g) : ∃ cur, W.heap[g]? = some (.cells cur e (0, 0)) := by
  rcases h.2 with ⟨e2, _⟩ | ⟨g', cap, cur, e2, _, hg', _⟩
  · rw [e2] at hg; cases hg
  · rw [e2] at hg
    obtain rfl : g' = g := by simpa [Value.ownBlock] using hg
    exact ⟨cur, hg'⟩
theorem ToI.ne {w : World} {hi bs : Nat} {L : List En} {k : Nat} {v : Value} {W : World} (h : ToI w hi bs L k v W) : ∀ g, v.ownBlock = some g → g ≠ bs := fun g e => by
  obtain ⟨cur, hc⟩ := ownsRow_cells h.row e
  rintro rfl
  have := h.box.symm.trans hc
  simp at this
theorem ToI.keep {w A C : World} {hi bs : Nat} {L : List En} {k : Nat} {v : Value} (h : ToI w hi bs L k v A) (hb : Below A.heap.size A C) : ToI w hi bs L k v C := ⟨kbE h.box hb, ownsRow_below h.row hb, h.far, bT' h.below hb h.below.size⟩
theorem toI_own {w : World} {bs B hi : Nat} {L : List En} (hB : w.heap.size ≤ B) : OwnFrom B (fun k W => ∃ v, ToI w hi bs L k v W) := by
  rintro k A C row ⟨v, h⟩ hgr hr
  have hk : ∀ (b : Nat) (cur : Array Value) (t : TypeId) (fr : Nat × Nat), A.heap[b]? = some (Obj.cells cur t fr) → C.heap[b]? = A.heap[b]? := fun b cur t fr hb => hgr.block b (Array.getElem?_eq_some_iff.1 hb).1 fun e => by
    obtain ⟨_, o, ho, hc⟩ := hr b e.symm
    rw [hb] at ho
    cases ho
    cases hc
  refine ⟨v, (hk _ _ _ _ h.box).trans h.box, ownsRow_keep h.row fun g e => ?_, h.far, ⟨hgr.os.trans h.below.os, hgr.tape.trans h.below.tape, hgr.output.trans h.below.output, Nat.le_trans h.below.size hgr.size, fun j hj => (hgr.block j (by have := h.below.size; omega) fun e => by have := (hr j e.symm).1; omega).trans (h.below.block j hj)⟩⟩
  obtain ⟨cur, hc⟩ := ownsRow_cells h.row e
  exact hk _ _ _ _ hc
theorem toI_in {w : World} {bs lo hi k : Nat} {L : List En} {A C : World} (h : ∃ v, ToI w hi bs L k v A) (hlo : bs < lo) (hw : w.heap.size ≤ lo) (hin : Inner lo hi A C) : ∃ v, ToI w hi bs L k v C := by
  obtain ⟨v, h⟩ := h
  have hbl := (Array.getElem?_eq_some_iff.1 h.box).1
  refine ⟨v, (hin.block bs hbl (by omega)).trans h.box, ownsRow_keep h.row fun g e => ?_, h.far, ⟨hin.os.trans h.below.os, hin.tape.trans h.below.tape, hin.output.trans h.below.output, Nat.le_trans h.below.size hin.size, fun j hj => (hin.block j (by have := h.below.size; omega) (by omega)).trans (h.below.block j hj)⟩⟩
  have := h.far g e
  exact hin.block g (h.row.lt g e).2 (by omega)
/-- The entry at a place. -/
def gE (L : List En) (k : Nat) : En := L.getD k ((0, 0, 0), 0)
theorem gE_get {L : List En} {k : Nat} (hk : k < L.length) : L[k]? = some (gE L k) := by
  unfold gE
  rw [List.getD_eq_getElem?_getD, List.getElem?_eq_getElem hk]
  rfl
/-- The temporaries of a round. -/
def actT (bs : Nat) (tv : Value) (f : Value) (x : En) (bx : Nat) : Act :=
  { tmps := #[tv, undef, .slice none 0 0, .pointer (some ⟨bs, 0, none⟩), .pointer (some ⟨bx, 0, none⟩), .int .i64 x.2, tv, f, x.1.v, .int .i64 x.2, undef, undef, undef, undef, undef, undef, undef, undef, undef, undef, undef], defers := [] }
/-- What told lays in a round. -/
theorem ToI.next {w Wq w8 : World} {B lo hi : Nat} {L : List En} {k : Nat} {v v' : Value} {o : Obj} (hj : ToI w hi w.heap.size L k v Wq) (hk : k < L.length) (hlo : w.heap.size < lo) (hhi : hi ≤ Wq.heap.size)
    (hg : (Wq.alloc o).grownBy w8 v.ownBlock) (hown : w8.ownsRow w.heap.size 52 4 v' ((L.take k).length + 1) ((L.take k).flatMap cE ++ cE (gE L k))) (hloc : v'.ownBlock = v.ownBlock ∨ v'.ownBlock = some (Wq.alloc o).heap.size) :
    KeepsFrom B Wq (w8.setCell ⟨w.heap.size, 0, none⟩ v') ∧ Kp (fun _ => False) lo hi Wq (w8.setCell ⟨w.heap.size, 0, none⟩ v') ∧ ∃ v, ToI w hi w.heap.size L (k + 1) v (w8.setCell ⟨w.heap.size, 0, none⟩ v') := by
  have hh : ∀ b, b ≠ w.heap.size → (w8.setCell ⟨w.heap.size, 0, none⟩ v').heap[b]? = w8.heap[b]? := fun b hb => heap_setCell_other _ ⟨w.heap.size, 0, none⟩ b _ hb
  have h8 : ∀ b, b < Wq.heap.size → some b ≠ v.ownBlock → w8.heap[b]? = Wq.heap[b]? := fun b hb hne => (hg.block b (by rw [World.size_alloc]; omega) hne).trans (Below.heap_alloc _ _ _ hb)
  have hsz : Wq.heap.size ≤ w8.heap.size := by have := hg.size; rw [World.size_alloc] at this; omega
  have hbl := (Array.getElem?_eq_some_iff.1 hj.box).1
  have hbn : some w.heap.size ≠ v.ownBlock := fun e => hj.ne _ e.symm rfl
  have hbox8 := (h8 _ hbl hbn).trans hj.box
  have hkeep : ∀ b, b < Wq.heap.size → some b ≠ v.ownBlock → b ≠ w.heap.size → (w8.setCell ⟨w.heap.size, 0, none⟩ v').heap[b]? = Wq.heap[b]? := fun b h1 h2 h3 => (hh b h3).trans (h8 b h1 h2)
  refine ⟨⟨by simpa using hsz, fun b u hb hu hc => ?_⟩, ⟨by simpa using hsz, fun b u hb hu _ => ?_⟩, v', ?_, ?_, ?_, ?_⟩
  · refine (hkeep b (Array.getElem?_eq_some_iff.1 hu).1 (fun e => ?_) (fun e => ?_)).trans hu
    · obtain ⟨cur, h⟩ := ownsRow_cells hj.row e.symm
      rw [h] at hu
      cases hu
      cases hc
    · rw [e, hj.box] at hu
      cases hu
      cases hc
  · refine (hkeep b (Array.getElem?_eq_some_iff.1 hu).1 (fun e => ?_) (fun e => ?_)).trans hu
    · have h1 := hj.far b e.symm
      rcases hb with h | h
      · exact h.elim
      · omega
    · rcases hb with h | h
      · exact h.elim
      · omega
  · exact heap_setCell_same w8 w.heap.size 0 _ _ v' hbox8
  · have hr : RowE w8 w.heap.size v' (L.take (k + 1)) := by
      rw [take_snocE (gE_get hk)]
      exact row_snoc hown
    refine ownsRow_keep hr fun g e => hh g fun e2 => ?_
    rcases hloc with h | h
    · exact hj.ne g (by rw [← h]; exact e) e2
    · rw [h] at e
      simp at e
      omega
  · intro g e
    rcases hloc with h | h
    · exact hj.far g (by rw [← h]; exact e)
    · rw [h] at e
      simp at e
      omega
  · have hb := hj.below
    refine ⟨hg.os.trans hb.os, hg.tape.trans hb.tape, hg.output.trans hb.output, by have := hb.size; simp; omega, fun j hjj => (hkeep j (by have := hb.size; omega) (fun e => ?_) (by omega)).trans (hb.block j hjj)⟩
    have := (hj.row.lt j e.symm).1
    omega

set_option maxRecDepth 100000 in
set_option maxHeartbeats 8000000 in
theorem told_c (tv : Value) (L : List En) (hm : L.length ≤ 4000000) (w : World)
    (hAll : ∀ W, Below w.heap.size w W → Calls Try.prog 23 #[tv] W fun e W' => ∃ gf lb, e = .returned (.func (.func gf) #[] lb) ∧ (∀ args w, (callFunc gf args).run Try.prog w = .ok (.enter gf args) w) ∧ Below W.heap.size W W' ∧ SeqP gf lb L.length (fun k => #[(gE L k).1.v, .int .i64 (gE L k).2]) (fun _ => False) W') :
    Calls Try.prog 12 #[tv] w fun e w' => ∃ v, e = .returned v ∧ RowE w' w.heap.size v L ∧ Below w.heap.size w w' := by
  obtain ⟨i0, hi0, hz0, hz1, hz2⟩ := info_parts infoE
  obtain ⟨W0, hW0⟩ : ∃ W0, w.alloc (.cells #[.slice none 0 0] 35) = W0 := ⟨_, rfl⟩
  have hs0 : W0.heap.size = w.heap.size + 1 := by rw [← hW0]; simp
  have hb0 : Below w.heap.size w W0 := hW0 ▸ bA' (Below.refl _ w) (Nat.le_refl _) _
  have hv0 : W0.heap[w.heap.size]? = some (.cells #[.slice none 0 0] 35 (0, 0)) := hW0 ▸ World.alloc_heap_new w _
  have KA := Lib.hid (hAll W0 hb0)
  have HW0 := Lib.hid hW0
  have H0 := Lib.hid (And.intro hs0 (And.intro hb0 (And.intro hv0 hm)))
  clear hAll hW0 hv0 hb0 hs0 hm
  refine (callsIn_wide (n := 0)).1 ?_
  refine callsIn_of_wp_marks Try.func12 rfl trivial ?_ rfl
  simp only [Try.ntmps12, List.size_toArray, List.length_cons, List.length_nil, Nat.reduceAdd, Nat.reduceSub, Array.replicate_succ, Array.replicate_zero, List.push_toArray, List.append_toArray, List.nil_append, List.cons_append]
  gi_wp2_with fail
  rw [HW0.out]
  refine ⟨trivial, rfl, ?_⟩
  refine callsIn_wide.2 (KA.out.mono ?_)
  rintro e W2 ⟨gf, lb, rfl, EG, hb2, hseq⟩
  have HS := Lib.hid hseq
  have HE := Lib.hid EG
  have H2 := Lib.hid (show (W2.heap[w.heap.size]? = some (.cells #[.slice none 0 0] 35 (0, 0)) ∧ Below w.heap.size w W2) ∧ w.heap.size < W2.heap.size from by
    obtain ⟨hs0, hb0, hv0, hm⟩ := H0.out
    exact ⟨⟨kbE hv0 hb2, bT' hb0 hb2 hb0.size⟩, by have := hb2.size; omega⟩)
  clear hseq EG hb2
  gi_wp2_with fail
  refine range_lawP (gf := gf) (lb := lb) rfl HE.out HS.out (fun _ => rfl)
    (fun hi k W => ∃ v, ToI w hi w.heap.size L k v W) (fun _ _ _ _ => False) ?hI ?hIx ?hIn ?h0 (fun hi k a' W => ∃ bx, a' = actT w.heap.size tv (.func (.func gf) #[] lb) (gE L k) bx ∧ W.heap[bx]? = some (.cells #[.int .i64 (gE L k).1.1, .int .i64 (gE L k).1.2.1, .int .i64 (gE L k).1.2.2] 33 (0, 0)) ∧ ∃ v, W.heap[w.heap.size]? = some (.cells #[v] 35 (0, 0)) ∧ v.ownBlock ≠ some bx ∧ bx ≠ w.heap.size) ?hAx ?assign ?body ?done ?stop
  case hI => exact fun hi => toI_own (by have := H2.out.2; omega)
  case hIx => rintro c hi s A C row h; exact h.elim
  case hIn => exact fun hi k A C _ _ h hin => toI_in h (by have := H2.out.2; omega) (by have := H2.out.2; omega) hin
  case h0 =>
    intro W' hb' _
    obtain ⟨⟨hv2, hb2⟩, hlt⟩ := H2.out
    exact ⟨.slice none 0 0, kbE hv2 hb', World.ownsRow_nil _ _ _ _, (fun g e => by cases e), bT' hb2 hb' hb2.size⟩
  case stop => exact fun D hi c k W _ _ _ h _ => h.elim
  case hAx =>
    rintro hi k a' s A C row ⟨bx, e, hb, v, hv, hvb, hne⟩ hgr hr
    have hk : ∀ (b : Nat) (cur : Array Value) (t : TypeId) (fr : Nat × Nat), A.heap[b]? = some (Obj.cells cur t fr) → C.heap[b]? = A.heap[b]? := fun b cur t fr hb => hgr.block b (Array.getElem?_eq_some_iff.1 hb).1 fun e => by
      obtain ⟨_, o, ho, hc⟩ := hr b e.symm
      rw [hb] at ho
      cases ho
      cases hc
    exact ⟨bx, e, (hk _ _ _ _ hb).trans hb, v, (hk _ _ _ _ hv).trans hv, hvb, hne⟩
  case assign =>
    rintro l hi k Wq K _ _ ⟨v, hj⟩ hk hK
    have hbq := bA' (Below.refl Wq.heap.size Wq) (Nat.le_refl _) (.cells #[.int .i64 (gE L k).1.1, .int .i64 (gE L k).1.2.1, .int .i64 (gE L k).1.2.2] 33)
    have H1 := Lib.hid (And.intro (hj.keep hbq) (And.intro hbq (And.intro (show v.ownBlock ≠ some Wq.heap.size from fun e => by have := (hj.row.lt _ e).2; omega) (show Wq.heap.size ≠ w.heap.size from by have := (Array.getElem?_eq_some_iff.1 hj.box).1; omega))))
    have HKK := Lib.hid hK
    obtain ⟨x, hx⟩ : ∃ x, gE L k = x := ⟨_, rfl⟩
    rw [hx] at H1 HKK ⊢
    clear hj hbq hK hx
    gi_wp2
    exact HKK.out _ _ H1.out.2.1 ⟨v, H1.out.1⟩ ⟨Wq.heap.size, rfl, World.alloc_heap_new Wq _, v, H1.out.1.box, H1.out.2.2.1, H1.out.2.2.2⟩
  case body =>
    rintro l hi k a' Wq hlo hhi ⟨v, hj⟩ ⟨bx, rfl, hbx, v2, hv2, hvb, hne⟩ hk
    obtain rfl : v = v2 := by
      have := hj.box.symm.trans hv2
      simpa using this
    obtain ⟨x, hx⟩ : ∃ x, gE L k = x := ⟨_, rfl⟩
    rw [hx] at hbx ⊢
    obtain ⟨x0, x1, x2⟩ := cells3 hbx (Below.refl _ _)
    have b0 : Wq.cell? ⟨w.heap.size, 0, none⟩ = some v := by unfold World.cell?; rw [hj.box]; rfl
    have hlk : (L.take k).length = k := by rw [List.length_take]; omega
    obtain ⟨p, cp, hv, _⟩ := RowE.form hj.row
    rw [hlk] at hv
    subst hv
    have hk1 : k ≤ 4000000 := by have := H0.out.2.2.2; omega
    have HJ := Lib.hid (And.intro hj (And.intro (show hi ≤ Wq.heap.size from hhi) (And.intro hk (And.intro hlk hx))))
    have HK1 := Lib.hid hk1
    have HROW := Lib.hid (show Wq.ownsRow w.heap.size 52 4 (.slice p k cp) k ((L.take k).flatMap cE) from by
      have := hj.row
      unfold RowE at this
      rw [hlk] at this
      exact this)
    clear hj hbx hv2 hlo hhi hvb hne hx hk hlk hk1
    unfold actT
    gi_wp2_with (first
      | (refine wpListIn_append_own_at _ rfl _ _ 35 rfl w.heap.size 52 i0 (.agg #[.int .i64 0, .int .i64 0, .int .i64 0, .int .i64 0]) 4 32 Try.underlying35 hi0 hz0 hz1 hz2 rfl (by decide) _ _ _ rfl (HROW.out.alloc _) ⟨Wq.heap.size, 0, none⟩ 1 1 [.int .i64 x.1.1, .int .i64 x.1.2.1, .int .i64 x.1.2.2, .int .i64 x.2] rfl rfl (by
                have := World.ownsRow_lit (base := 0) (e := 52) (size := 4) Wq #[.int .i64 x.1.1, .int .i64 x.1.2.1, .int .i64 x.1.2.2, .int .i64 x.2] 1 (by omega) (by unfold maxLen; omega) rfl
                exact this.cells (g := Wq.heap.size) (by simp [Value.ownBlock])) (by
                intro u hu
                simp only [List.mem_cons, List.not_mem_nil, or_false] at hu
                rcases hu with rfl | rfl | rfl | rfl <;> rfl) (by unfold maxLen; have := HK1.out; omega) (by have := HK1.out; omega) (by have := HJ.out.1.below.size; simp; omega) ?_; intro v' w8 hown' hgrow hnil hloc; obtain ⟨g8, c8, rfl, _⟩ := hown'.form (by omega); have HN := Lib.hid (ToI.next (B := W2.heap.size) (lo := W2.heap.size + 2) HJ.out.1 HJ.out.2.2.1 (by have := H2.out.2; omega) HJ.out.2.1 hgrow (by rw [HJ.out.2.2.2.1, HJ.out.2.2.2.2]; exact hown') hloc); have hb8 : w8.heap[w.heap.size]? = some (.cells #[.slice p k cp] 35 (0, 0)) := (hgrow.block _ (by have := (Array.getElem?_eq_some_iff.1 HJ.out.1.box).1; rw [World.size_alloc]; omega) (fun e => HJ.out.1.ne _ e.symm rfl)).trans ((Below.heap_alloc _ _ _ (Array.getElem?_eq_some_iff.1 HJ.out.1.box).1).trans HJ.out.1.box); have b8 : w8.cell? ⟨w.heap.size, 0, none⟩ = some (.slice p k cp) := (by unfold World.cell?; rw [hb8]; rfl); have f8 := frozen_of_row _ w.heap.size 0 _ _ hb8; clear hown' hgrow hnil hloc hb8))
    exact HN.out
  case done =>
    rintro D hi W hD _ ⟨v, hj⟩ hdef
    have c0 : W.cell? ⟨w.heap.size, 0, none⟩ = some v := by unfold World.cell?; rw [hj.box]; rfl
    have H1 := Lib.hid (And.intro hj (And.intro hdef (show w.heap.size + 1 ≤ D from by have := H2.out.2; omega)))
    clear hj hdef hD
    gi_wp2
    obtain ⟨hj, hdef, hD⟩ := H1.out
    refine ⟨by simp, .inl ⟨_, _, rfl, run_takeDeferred hdef, ?_⟩⟩
    have hrow := hj.row
    rw [List.take_length] at hrow
    refine ⟨_, results_tmp rfl _ _ _, v, rfl, ownsRow_keep hrow fun g e => World.putObj_heap_other (fun e2 => ?_), ⟨hj.below.os, hj.below.tape, hj.below.output, by have := hj.below.size; simpa using this, fun j hjj => (World.putObj_heap_other (by omega)).trans (hj.below.block j hjj)⟩⟩
    obtain ⟨cur, hc⟩ := ownsRow_cells hrow e
    rw [e2, hdef] at hc
    cases hc
end Go.Proofs.Ytibphmddepfgjaa.Tr
