/-
  slices.AppendSeq and slices.Collect at entries over this seat's translation: the list of all that an iterator hands out. Conditions: those that each theorem states.
-/
import Derived.Test.YtngeinmpnjfhfaaHpAll
import Derived.Maps.OwnIn
namespace Go.Proofs.Ytngeinmpnjfhfaa
open Go.RowKit Go.Shelf Go.Lib Go.Sort Hp Go.Maps
attribute [local go_sem] Oper.semAt_some

/-- What was collected so far. -/
structure GotI (w : World) (bs : Nat) (m : List It) (hi k : Nat) (v : Value) (W : World) : Prop where
  box : W.heap[bs]? = some (.cells #[v] 50 (0, 0))
  row : W.ownsRow w.heap.size 33 2 v k ((m.take k).flatMap It.cells)
  far : ∀ g, v.ownBlock = some g → hi ≤ g
  below : Below w.heap.size w W
theorem ownsRow_keep {W W' : World} {B n sz : Nat} {e : TypeId} {v : Value} {xs : List Value} (h : W.ownsRow B e sz v n xs) (hk : ∀ g, v.ownBlock = some g → W'.heap[g]? = W.heap[g]?) : W'.ownsRow B e sz v n xs := by
  refine ⟨h.1, ?_⟩
  rcases h.2 with h3 | ⟨g, cap, cur, e, hB, hg, rest⟩
  · exact .inl h3
  · exact .inr ⟨g, cap, cur, e, hB, (hk g (by rw [e]; rfl)).trans hg, rest⟩
theorem ownsRow_cells {W : World} {B n sz : Nat} {e : TypeId} {v : Value} {xs : List Value} (h : W.ownsRow B e sz v n xs) {g : Nat} (hg : v.ownBlock = some g) : ∃ cur, W.heap[g]? = some (.cells cur e (0, 0)) := by
  rcases h.2 with ⟨e2, _⟩ | ⟨g', cap, cur, e2, _, hg', _⟩
  · rw [e2] at hg; cases hg
  · rw [e2] at hg
    obtain rfl : g' = g := by simpa [Value.ownBlock] using hg
    exact ⟨cur, hg'⟩
theorem GotI.ne {w : World} {bs : Nat} {m : List It} {hi k : Nat} {v : Value} {W : World} (h : GotI w bs m hi k v W) : ∀ g, v.ownBlock = some g → g ≠ bs := fun g e => by
  obtain ⟨cur, hc⟩ := ownsRow_cells h.row e
  rintro rfl
  have := h.box.symm.trans hc
  simp at this
theorem gotI_own {w : World} {bs B : Nat} {m : List It} {hi : Nat} (hB : w.heap.size ≤ B) : OwnFrom B (fun k W => ∃ v, GotI w bs m hi k v W) := by
  rintro k A C row ⟨v, h⟩ hgr hr
  have hk : ∀ (b : Nat) (cur : Array Value) (t : TypeId) (fr : Nat × Nat), A.heap[b]? = some (Obj.cells cur t fr) → C.heap[b]? = A.heap[b]? := fun b cur t fr hb => hgr.block b (Array.getElem?_eq_some_iff.1 hb).1 fun e => by
    obtain ⟨_, o, ho, hc⟩ := hr b e.symm
    rw [hb] at ho
    cases ho
    cases hc
  refine ⟨v, (hk _ _ _ _ h.box).trans h.box, ownsRow_keep h.row fun g e => ?_, h.far, ⟨hgr.os.trans h.below.os, hgr.tape.trans h.below.tape, hgr.output.trans h.below.output, Nat.le_trans h.below.size hgr.size, fun j hj => (hgr.block j (by have := h.below.size; omega) fun e => by have := (hr j e.symm).1; omega).trans (h.below.block j hj)⟩⟩
  obtain ⟨cur, hc⟩ := ownsRow_cells h.row e
  exact hk _ _ _ _ hc
theorem gotI_in {w : World} {bs lo : Nat} {m : List It} {hi k : Nat} {A C : World} (h : ∃ v, GotI w bs m hi k v A) (hlo : bs < lo) (hw : w.heap.size ≤ lo) (hin : Inner lo hi A C) : ∃ v, GotI w bs m hi k v C := by
  obtain ⟨v, h⟩ := h
  have hbl := (Array.getElem?_eq_some_iff.1 h.box).1
  refine ⟨v, (hin.block bs hbl (by omega)).trans h.box, ownsRow_keep h.row fun g e => ?_, h.far, ⟨hin.os.trans h.below.os, hin.tape.trans h.below.tape, hin.output.trans h.below.output, Nat.le_trans h.below.size hin.size, fun j hj => (hin.block j (by have := h.below.size; omega) (by omega)).trans (h.below.block j hj)⟩⟩
  have := h.far g e
  exact hin.block g (h.row.lt g e).2 (by omega)
/-- The temporaries of a round. -/
def actC (bs gf : Nat) (lb : Array Value) (x : It) (bx : Nat) : Act :=
  { tmps := #[.slice none 0 0, .func (.func gf) #[] lb, .pointer (some ⟨bs, 0, none⟩), undef, .slice none 0 0, .pointer (some ⟨bx, 0, none⟩), .func (.func gf) #[] lb, .agg #[.int .i64 x.1, .int .i64 x.2], undef, undef, undef, undef, undef], defers := [] }
theorem take_g {m : List It} {k : Nat} (hk : k < m.length) : m.take (k + 1) = m.take k ++ [Hp.g m k] := by rw [take_snoc hk, g_get hk]

theorem GotI.next {w Wq w8 : World} {B lo hi k : Nat} {m : List It} {v v' : Value} {o : Obj} {old : Nat → Prop} (hj : GotI w w.heap.size m hi k v Wq) (hk : k < m.length) (hlo : w.heap.size < lo) (hhi : hi ≤ Wq.heap.size) (hold : ∀ b, old b → b < w.heap.size)
    (hg : (Wq.alloc o).grownBy w8 v.ownBlock) (hown : w8.ownsRow w.heap.size 33 2 v' (k + 1) ((m.take k).flatMap It.cells ++ [.int .i64 (Hp.g m k).1, .int .i64 (Hp.g m k).2])) (hloc : v'.ownBlock = v.ownBlock ∨ v'.ownBlock = some (Wq.alloc o).heap.size) :
    KeepsFrom B Wq (w8.setCell ⟨w.heap.size, 0, none⟩ v') ∧ Kp old lo hi Wq (w8.setCell ⟨w.heap.size, 0, none⟩ v') ∧ ∃ v, GotI w w.heap.size m hi (k + 1) v (w8.setCell ⟨w.heap.size, 0, none⟩ v') := by
  have hh : ∀ b, b ≠ w.heap.size → (w8.setCell ⟨w.heap.size, 0, none⟩ v').heap[b]? = w8.heap[b]? := fun b hb => heap_setCell_other _ ⟨w.heap.size, 0, none⟩ b _ hb
  have h8 : ∀ b, b < Wq.heap.size → some b ≠ v.ownBlock → w8.heap[b]? = Wq.heap[b]? := fun b hb hne => (hg.block b (by rw [World.size_alloc]; omega) hne).trans (Below.heap_alloc _ _ _ hb)
  have hsz : Wq.heap.size ≤ w8.heap.size := by have := hg.size; rw [World.size_alloc] at this; omega
  have hbl := (Array.getElem?_eq_some_iff.1 hj.box).1
  have hbn : some w.heap.size ≠ v.ownBlock := fun e => hj.ne _ e.symm rfl
  have hbox8 := (h8 _ hbl hbn).trans hj.box
  have hkeep : ∀ b, b < Wq.heap.size → some b ≠ v.ownBlock → b ≠ w.heap.size → (w8.setCell ⟨w.heap.size, 0, none⟩ v').heap[b]? = Wq.heap[b]? := fun b h1 h2 h3 => (hh b h3).trans (h8 b h1 h2)
  refine ⟨⟨by simpa using hsz, fun b u hb hu hc => ?_⟩, ⟨by simpa using hsz, fun b u hb hu _ => ?_⟩, v', ?_, ?_, ?_, ?_⟩
  · refine (hkeep b (Array.getElem?_eq_some_iff.1 hu).1 (fun e => ?_) (fun e => ?_)).trans hu
    · obtain ⟨cur, h⟩ := ownsRow_cells hj.row e.symm
      rw [h] at hu
      cases hu
      cases hc
    · rw [e, hj.box] at hu
      cases hu
      cases hc
  · refine (hkeep b (Array.getElem?_eq_some_iff.1 hu).1 (fun e => ?_) (fun e => ?_)).trans hu
    · have h1 := hj.far b e.symm
      have h2 := (hj.row.lt b e.symm).1
      rcases hb with h | h
      · have := hold b h; omega
      · omega
    · rcases hb with h | h
      · have := hold b h; omega
      · omega
  · exact heap_setCell_same w8 w.heap.size 0 _ _ v' hbox8
  · have hr : w8.ownsRow w.heap.size 33 2 v' (k + 1) ((m.take (k + 1)).flatMap It.cells) := by
      rw [take_g hk, List.flatMap_append]
      exact hown
    refine ownsRow_keep hr fun g e => hh g fun e2 => ?_
    rcases hloc with h | h
    · exact hj.ne g (by rw [← h]; exact e) e2
    · rw [h] at e
      simp at e
      omega
  · intro g e
    rcases hloc with h | h
    · exact hj.far g (by rw [← h]; exact e)
    · rw [h] at e
      simp at e
      omega
  · have hb := hj.below
    refine ⟨hg.os.trans hb.os, hg.tape.trans hb.tape, hg.output.trans hb.output, by have := hb.size; simp; omega, fun j hjj => (hkeep j (by have := hb.size; omega) (fun e => ?_) (by omega)).trans (hb.block j hjj)⟩
    have := (hj.row.lt j e.symm).1
    omega

set_option maxRecDepth 100000 in
set_option maxHeartbeats 8000000 in
theorem appendSeq_c (gf : Nat) (lb : Array Value) (eg : ∀ args w, (callFunc gf args).run Try.prog w = .ok (.enter gf args) w) (m : List It) (hm : m.length ≤ 1000) (old : Nat → Prop) (w : World) (hold : ∀ b, old b → b < w.heap.size)
    (hseq : ∀ W0, Below w.heap.size w W0 → SeqP gf lb m.length (fun k => #[.agg #[.int .i64 (Hp.g m k).1, .int .i64 (Hp.g m k).2]]) old W0) :
    Calls Try.prog 35 #[.slice none 0 0, .func (.func gf) #[] lb] w fun e w' => ∃ v, e = .returned v ∧ w'.ownsRow w.heap.size 33 2 v m.length (m.flatMap It.cells) ∧ Below w.heap.size w w' := by
  obtain ⟨W0, hW0⟩ : ∃ W0, w.alloc (.cells #[.slice none 0 0] 50) = W0 := ⟨_, rfl⟩
  have hs0 : W0.heap.size = w.heap.size + 1 := by rw [← hW0]; simp
  have hb0 : Below w.heap.size w W0 := hW0 ▸ bA' (Below.refl _ w) (Nat.le_refl _) _
  have hv0 : W0.heap[w.heap.size]? = some (.cells #[.slice none 0 0] 50 (0, 0)) := hW0 ▸ World.alloc_heap_new w _
  have HSEQ := Lib.hid (hseq W0 hb0)
  have HW0 := Lib.hid hW0
  have HEG := Lib.hid eg
  have H0 := Lib.hid (And.intro hs0 (And.intro hb0 (And.intro hv0 (And.intro hold hm))))
  clear hseq hW0 eg hv0 hb0 hs0 hold hm
  refine (callsIn_wide (n := 0)).1 ?_
  refine callsIn_of_wp_marks Try.func35 rfl trivial ?_ rfl
  simp only [Try.ntmps35, List.size_toArray, List.length_cons, List.length_nil, Nat.reduceAdd, Nat.reduceSub, Array.replicate_succ, Array.replicate_zero, List.push_toArray, List.append_toArray, List.nil_append, List.cons_append]
  gi_wp2
  rw [HW0.out]
  refine range_lawP (gf := gf) (lb := lb) (old := old) rfl HEG.out HSEQ.out (fun _ => rfl)
    (fun hi k W => ∃ v, GotI w w.heap.size m hi k v W) (fun _ _ _ _ => False) ?hI ?hIx ?hIn ?h0
    (fun hi k a' W => ∃ bx, a' = actC w.heap.size gf lb (Hp.g m k) bx ∧ W.heap[bx]? = some (.cells #[.int .i64 (Hp.g m k).1, .int .i64 (Hp.g m k).2] 33 (0, 0)) ∧ bx ≠ w.heap.size ∧ ∃ v, W.heap[w.heap.size]? = some (.cells #[v] 50 (0, 0)) ∧ v.ownBlock ≠ some bx) ?hAx ?assign ?body ?done ?stop
  case hI => exact fun hi => gotI_own (by have := H0.out.1; omega)
  case hIx => rintro c hi s A C row h; exact h.elim
  case hIn => exact fun hi k A C _ _ h hin => gotI_in h (by have := H0.out.1; omega) (by have := H0.out.1; omega) hin
  case h0 =>
    intro W' hb' _
    obtain ⟨hs0, hb0, hv0, _⟩ := H0.out
    exact ⟨.slice none 0 0, (hb'.block _ (by omega)).trans hv0, World.ownsRow_nil _ _ _ _, (fun g e => by cases e), bT' hb0 hb' hb0.size⟩
  case hAx =>
    rintro hi k a' s A C row ⟨bx, e, hb, hne, v, hv, hvb⟩ hgr hr
    have hk : ∀ (b : Nat) (cur : Array Value) (t : TypeId) (fr : Nat × Nat), A.heap[b]? = some (Obj.cells cur t fr) → C.heap[b]? = A.heap[b]? := fun b cur t fr hb => hgr.block b (Array.getElem?_eq_some_iff.1 hb).1 fun e => by
      obtain ⟨_, o, ho, hc⟩ := hr b e.symm
      rw [hb] at ho
      cases ho
      cases hc
    exact ⟨bx, e, (hk _ _ _ _ hb).trans hb, hne, v, (hk _ _ _ _ hv).trans hv, hvb⟩
  case assign =>
    rintro l2 hi k Wq K _ _ ⟨v, hj⟩ hk hK
    have hbq := bA' (Below.refl Wq.heap.size Wq) (Nat.le_refl _) (.cells #[.int .i64 (Hp.g m k).1, .int .i64 (Hp.g m k).2] 33)
    have hltb := (Array.getElem?_eq_some_iff.1 hj.box).1
    have hbx := (hbq.block _ hltb).trans hj.box
    have hI : GotI w w.heap.size m hi k v (Wq.alloc (.cells #[.int .i64 (Hp.g m k).1, .int .i64 (Hp.g m k).2] 33)) := ⟨hbx, hj.row.alloc _, hj.far, bT' hj.below hbq hj.below.size⟩
    have H1 := Lib.hid (And.intro hI (And.intro hbq (And.intro hbx (show v.ownBlock ≠ some Wq.heap.size from fun e => by have := (hj.row.lt _ e).2; omega))))
    have HNE := Lib.hid (show Wq.heap.size ≠ w.heap.size from by omega)
    have HKK := Lib.hid hK
    obtain ⟨x, hx⟩ : ∃ x, Hp.g m k = x := ⟨_, rfl⟩
    rw [hx] at H1 HKK ⊢
    clear hI hbx hbq hj hltb hK hx
    gi_wp2
    exact HKK.out _ _ H1.out.2.1 ⟨v, H1.out.1⟩ ⟨Wq.heap.size, rfl, World.alloc_heap_new Wq _, HNE.out, v, H1.out.2.2.1, H1.out.2.2.2⟩
  case body =>
    rintro l2 hi k a' Wq hlo hhi ⟨v, hj⟩ ⟨bx, rfl, hbx, hne, v2, hv2, hvb⟩ hk
    obtain rfl : v = v2 := by
      have := hj.box.symm.trans hv2
      simpa using this
    obtain ⟨x, hx⟩ : ∃ x, Hp.g m k = x := ⟨_, rfl⟩
    rw [hx] at hbx ⊢
    obtain ⟨i0, hi0, hz0, hz1, hz2⟩ := info_parts infoIt
    obtain ⟨x0, x1, _⟩ := cell_two hbx
    have b0 : Wq.cell? ⟨w.heap.size, 0, none⟩ = some v := by unfold World.cell?; rw [hj.box]; rfl
    obtain ⟨p, cp, rfl⟩ : ∃ p cp, v = .slice p k cp := by
      rcases hj.row.2 with ⟨rfl, e⟩ | ⟨g, cap, cur, rfl, _⟩
      · exact ⟨none, 0, by rw [e]⟩
      · exact ⟨_, _, rfl⟩
    have HJ := Lib.hid (And.intro hj (And.intro hlo (And.intro hhi (And.intro hbx (And.intro hne (And.intro hvb (And.intro hk hx)))))))
    have hrow := hj.row
    have hkk : k ≤ 1000 := by have := H0.out.2.2.2.2; omega
    clear hj hbx hv2 hlo hhi hne hvb hx hk
    unfold actC
    gi_wp2_with (first
      | (refine wpListIn_append_own_at _ rfl _ _ 50 rfl w.heap.size 33 i0 (.agg #[.int .i64 0, .int .i64 0]) 2 16 Try.underlying50 hi0 hz0 hz1 hz2 rfl (by decide) _ _ _ rfl (hrow.alloc _) ⟨Wq.heap.size, 0, none⟩ 1 1 [.int .i64 x.1, .int .i64 x.2] rfl rfl (by
                have := World.ownsRow_lit (base := 0) (e := 33) (size := 2) Wq #[.int .i64 x.1, .int .i64 x.2] 1 (by omega) (by unfold maxLen; omega) rfl
                exact this.cells (g := Wq.heap.size) (by simp [Value.ownBlock])) (by
                intro u hu
                simp only [List.mem_cons, List.not_mem_nil, or_false] at hu
                rcases hu with rfl | rfl <;> rfl) (by unfold maxLen; omega) (by omega) (by have := HJ.out.1.below.size; simp; omega) ?_; intro v' w8 hown' hgrow hnil hloc; obtain ⟨g8, c8, rfl, _⟩ := hown'.form (by omega); have HN := Lib.hid (GotI.next (B := W0.heap.size) (lo := W0.heap.size + 2) (old := old) HJ.out.1 HJ.out.2.2.2.2.2.2.1 (by have := H0.out.1; omega) HJ.out.2.2.1 H0.out.2.2.2.1 hgrow (by rw [HJ.out.2.2.2.2.2.2.2]; exact hown') hloc); have hb8 := keep2 hgrow HJ.out.1.box (fun e => HJ.out.1.ne _ e.symm rfl); have b8 : w8.cell? ⟨w.heap.size, 0, none⟩ = some (.slice p k cp) := (by unfold World.cell?; rw [hb8]; rfl); have f8 := frozen_of_row _ w.heap.size 0 _ _ hb8; clear hown' hgrow hnil hloc hb8))
    exact HN.out
  case done =>
    rintro D hi W hD hlo ⟨v, hj⟩ hdef
    have c0 : W.cell? ⟨w.heap.size, 0, none⟩ = some v := by unfold World.cell?; rw [hj.box]; rfl
    have H1 := Lib.hid (And.intro hj (And.intro hdef (show w.heap.size + 1 ≤ D from by have := H0.out.1; omega)))
    clear hj hdef hD hlo
    gi_wp2
    obtain ⟨hj, hdef, hD⟩ := H1.out
    refine ⟨by simp, .inl ⟨_, _, rfl, run_takeDeferred hdef, ?_⟩⟩
    have hrow := hj.row
    rw [List.take_length] at hrow
    refine ⟨_, results_tmp rfl _ _ _, v, rfl, ownsRow_keep hrow fun g e => World.putObj_heap_other (fun e2 => ?_), ⟨hj.below.os, hj.below.tape, hj.below.output, by have := hj.below.size; simpa using this, fun j hjj => (World.putObj_heap_other (by omega)).trans (hj.below.block j hjj)⟩⟩
    obtain ⟨cur, hc⟩ := ownsRow_cells hrow e
    rw [e2, hdef] at hc
    cases hc
  case stop => exact fun D hi c k W _ _ _ h _ => h.elim
end Go.Proofs.Ytngeinmpnjfhfaa
