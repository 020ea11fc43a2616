/-
  gavottelaw05's items and alike over this seat's translation. Conditions: those that each theorem states.
-/
import Derived.Test.YtgolbeoaomgmcaaQuBox
import Derived.Maps.OwnIn
import Derived.RangeFuncBox
namespace Go.Proofs.Ytgolbeoaomgmcaa
open Go.RowKit Go.Shelf Go.Lib Go.Sort Qu
attribute [local go_sem] Oper.semAt_some

/-- What was collected so far. -/
structure GotI (w : World) (bs : Nat) (m : List Int) (hi k : Nat) (v : Value) (W : World) : Prop where
  box : W.heap[bs]? = some (.cells #[v] 36 (0, 0))
  row : W.ownsRow w.heap.size 3 1 v k ((m.take k).map fun x => Value.int .i64 x)
  far : ∀ g, v.ownBlock = some g → hi ≤ g
  below : Below w.heap.size w W
theorem ownsRow_keep {W W' : World} {B n sz : Nat} {e : TypeId} {v : Value} {xs : List Value} (h : W.ownsRow B e sz v n xs) (hk : ∀ g, v.ownBlock = some g → W'.heap[g]? = W.heap[g]?) : W'.ownsRow B e sz v n xs := by
  refine ⟨h.1, ?_⟩
  rcases h.2 with h3 | ⟨g, cap, cur, e, hB, hg, rest⟩
  · exact .inl h3
  · exact .inr ⟨g, cap, cur, e, hB, (hk g (by rw [e]; rfl)).trans hg, rest⟩
theorem ownsRow_cells {W : World} {B n sz : Nat} {e : TypeId} {v : Value} {xs : List Value} (h : W.ownsRow B e sz v n xs) {g : Nat} (hg : v.ownBlock = some g) : ∃ cur, W.heap[g]? = some (.cells cur e (0, 0)) := by
  rcases h.2 with ⟨e2, _⟩ | ⟨g', cap, cur, e2, _, hg', _⟩
  · rw [e2] at hg; cases hg
  · rw [e2] at hg
    obtain rfl : g' = g := by simpa [Value.ownBlock] using hg
    exact ⟨cur, hg'⟩
theorem GotI.ne {w : World} {bs : Nat} {m : List Int} {hi k : Nat} {v : Value} {W : World} (h : GotI w bs m hi k v W) : ∀ g, v.ownBlock = some g → g ≠ bs := fun g e => by
  obtain ⟨cur, hc⟩ := ownsRow_cells h.row e
  rintro rfl
  have := h.box.symm.trans hc
  simp at this
theorem gotI_own {w : World} {bs B : Nat} {m : List Int} {hi : Nat} (hB : w.heap.size ≤ B) : OwnFrom B (fun k W => ∃ v, GotI w bs m hi k v W) := by
  rintro k A C row ⟨v, h⟩ hgr hr
  have hk : ∀ (b : Nat) (cur : Array Value) (t : TypeId) (fr : Nat × Nat), A.heap[b]? = some (Obj.cells cur t fr) → C.heap[b]? = A.heap[b]? := fun b cur t fr hb => hgr.block b (Array.getElem?_eq_some_iff.1 hb).1 fun e => by
    obtain ⟨_, o, ho, hc⟩ := hr b e.symm
    rw [hb] at ho
    cases ho
    cases hc
  refine ⟨v, (hk _ _ _ _ h.box).trans h.box, ownsRow_keep h.row fun g e => ?_, h.far, ⟨hgr.os.trans h.below.os, hgr.tape.trans h.below.tape, hgr.output.trans h.below.output, Nat.le_trans h.below.size hgr.size, fun j hj => (hgr.block j (by have := h.below.size; omega) fun e => by have := (hr j e.symm).1; omega).trans (h.below.block j hj)⟩⟩
  obtain ⟨cur, hc⟩ := ownsRow_cells h.row e
  exact hk _ _ _ _ hc
theorem gotI_in {w : World} {bs lo : Nat} {m : List Int} {hi k : Nat} {A C : World} (h : ∃ v, GotI w bs m hi k v A) (hlo : bs < lo) (hw : w.heap.size ≤ lo) (hin : Inner lo hi A C) : ∃ v, GotI w bs m hi k v C := by
  obtain ⟨v, h⟩ := h
  have hbl := (Array.getElem?_eq_some_iff.1 h.box).1
  refine ⟨v, (hin.block bs hbl (by omega)).trans h.box, ownsRow_keep h.row fun g e => ?_, h.far, ⟨hin.os.trans h.below.os, hin.tape.trans h.below.tape, hin.output.trans h.below.output, Nat.le_trans h.below.size hin.size, fun j hj => (hin.block j (by have := h.below.size; omega) (by omega)).trans (h.below.block j hj)⟩⟩
  have := h.far g e
  exact hin.block g (h.row.lt g e).2 (by omega)
theorem keep2 {V w8 : World} {o ob : Obj} {row : Option Nat} {b : Nat} (hg : (V.alloc o).grownBy w8 row) (hb : V.heap[b]? = some ob) (hn : some b ≠ row) : w8.heap[b]? = some ob := by
  have hlt := (Array.getElem?_eq_some_iff.1 hb).1
  exact (hg.block b (by rw [World.size_alloc]; omega) hn).trans ((Below.heap_alloc _ _ _ hlt).trans hb)
theorem take_g {m : List Int} {k : Nat} (hk : k < m.length) : m.take (k + 1) = m.take k ++ [gI m k] := by
  unfold gI
  rw [List.take_add_one, List.getElem?_eq_getElem hk, List.getD_eq_getElem?_getD, List.getElem?_eq_getElem hk]
  rfl
theorem GotI.next {w Wq w8 : World} {B lo hi k : Nat} {m : List Int} {v v' : Value} {o : Obj} {old : Nat → Prop} (hj : GotI w w.heap.size m hi k v Wq) (hk : k < m.length) (hlo : w.heap.size < lo) (hhi : hi ≤ Wq.heap.size) (hold : ∀ b, old b → b < w.heap.size)
    (hg : (Wq.alloc o).grownBy w8 v.ownBlock) (hown : w8.ownsRow w.heap.size 3 1 v' (k + 1) ((m.take k).map (fun x => Value.int .i64 x) ++ [.int .i64 (gI m k)])) (hloc : v'.ownBlock = v.ownBlock ∨ v'.ownBlock = some (Wq.alloc o).heap.size) :
    KeepsFrom B Wq (w8.setCell ⟨w.heap.size, 0, none⟩ v') ∧ Kp old lo hi Wq (w8.setCell ⟨w.heap.size, 0, none⟩ v') ∧ ∃ v, GotI w w.heap.size m hi (k + 1) v (w8.setCell ⟨w.heap.size, 0, none⟩ v') := by
  have hh : ∀ b, b ≠ w.heap.size → (w8.setCell ⟨w.heap.size, 0, none⟩ v').heap[b]? = w8.heap[b]? := fun b hb => heap_setCell_other _ ⟨w.heap.size, 0, none⟩ b _ hb
  have h8 : ∀ b, b < Wq.heap.size → some b ≠ v.ownBlock → w8.heap[b]? = Wq.heap[b]? := fun b hb hne => (hg.block b (by rw [World.size_alloc]; omega) hne).trans (Below.heap_alloc _ _ _ hb)
  have hsz : Wq.heap.size ≤ w8.heap.size := by have := hg.size; rw [World.size_alloc] at this; omega
  have hbl := (Array.getElem?_eq_some_iff.1 hj.box).1
  have hbn : some w.heap.size ≠ v.ownBlock := fun e => hj.ne _ e.symm rfl
  have hbox8 := (h8 _ hbl hbn).trans hj.box
  have hkeep : ∀ b, b < Wq.heap.size → some b ≠ v.ownBlock → b ≠ w.heap.size → (w8.setCell ⟨w.heap.size, 0, none⟩ v').heap[b]? = Wq.heap[b]? := fun b h1 h2 h3 => (hh b h3).trans (h8 b h1 h2)
  refine ⟨⟨by simpa using hsz, fun b u hb hu hc => ?_⟩, ⟨by simpa using hsz, fun b u hb hu _ => ?_⟩, v', ?_, ?_, ?_, ?_⟩
  · refine (hkeep b (Array.getElem?_eq_some_iff.1 hu).1 (fun e => ?_) (fun e => ?_)).trans hu
    · obtain ⟨cur, h⟩ := ownsRow_cells hj.row e.symm
      rw [h] at hu
      cases hu
      cases hc
    · rw [e, hj.box] at hu
      cases hu
      cases hc
  · refine (hkeep b (Array.getElem?_eq_some_iff.1 hu).1 (fun e => ?_) (fun e => ?_)).trans hu
    · have h1 := hj.far b e.symm
      have h2 := (hj.row.lt b e.symm).1
      rcases hb with h | h
      · have := hold b h; omega
      · omega
    · rcases hb with h | h
      · have := hold b h; omega
      · omega
  · exact heap_setCell_same w8 w.heap.size 0 _ _ v' hbox8
  · have hr : w8.ownsRow w.heap.size 3 1 v' (k + 1) ((m.take (k + 1)).map fun x => Value.int .i64 x) := by
      rw [take_g hk, List.map_append]
      exact hown
    refine ownsRow_keep hr fun g e => hh g fun e2 => ?_
    rcases hloc with h | h
    · exact hj.ne g (by rw [← h]; exact e) e2
    · rw [h] at e
      simp at e
      omega
  · intro g e
    rcases hloc with h | h
    · exact hj.far g (by rw [← h]; exact e)
    · rw [h] at e
      simp at e
      omega
  · have hb := hj.below
    refine ⟨hg.os.trans hb.os, hg.tape.trans hb.tape, hg.output.trans hb.output, by have := hb.size; simp; omega, fun j hjj => (hkeep j (by have := hb.size; omega) (fun e => ?_) (by omega)).trans (hb.block j hjj)⟩
    have := (hj.row.lt j e.symm).1
    omega


set_option maxRecDepth 100000 in
set_option maxHeartbeats 8000000 in
theorem items_c {q k0 : Nat} {p : Option Addr} {m : List Int} {w : World} (hq : Own 0 w q p k0 m) (hm : m.length ≤ 1000) :
    Calls Try.prog 18 #[.pointer (some ⟨q, 0, none⟩)] w fun e w' => ∃ v, e = .returned v ∧ w'.ownsRow w.heap.size 3 1 v m.length (m.map fun x => Value.int .i64 x) ∧ Below w.heap.size w w' := by
  have EG : ∀ args w, (callFunc 23 args).run Try.prog w = .ok (.enter 23 args) w := enters_of Try.func23 (by kernel_rfl) rfl
  have hb1 : Below w.heap.size w (w.alloc (.cells #[.slice none 0 0] 36)) := bA' (Below.refl _ w) (Nat.le_refl _) _
  have KF := Lib.hid (allf_c (some ⟨q, 0, none⟩) (w.alloc (.cells #[.slice none 0 0] 36)))
  obtain ⟨W0, hW0⟩ : ∃ W0, (w.alloc (.cells #[.slice none 0 0] 36)).alloc (.cells #[.pointer (some ⟨q, 0, none⟩)] 24) = W0 := ⟨_, rfl⟩
  have hs0 : W0.heap.size = w.heap.size + 2 := by rw [← hW0]; simp
  have hb0 : Below w.heap.size w W0 := hW0 ▸ bA' hb1 hb1.size _
  have hv0 : W0.heap[w.heap.size]? = some (.cells #[.slice none 0 0] 36 (0, 0)) := by rw [← hW0, Below.heap_alloc _ _ _ (by simp)]; exact World.alloc_heap_new w _
  have hBv : W0.heap[w.heap.size + 1]? = some (.cells #[.pointer (some ⟨q, 0, none⟩)] 24 (0, 0)) := by
    have := World.alloc_heap_new (w.alloc (.cells #[.slice none 0 0] 36)) (.cells #[.pointer (some ⟨q, 0, none⟩)] 24)
    rw [World.size_alloc] at this
    rw [← hW0]
    exact this
  have HSEQ := Lib.hid (all_seqP hBv (hq.below hb0))
  have HW0 := Lib.hid hW0
  have H0 := Lib.hid (And.intro hs0 (And.intro hb0 (And.intro hv0 hm)))
  clear hW0 hv0 hb0 hs0 hm hq hBv hb1
  refine (callsIn_wide (n := 0)).1 ?_
  refine callsIn_of_wp_marks Try.func18 rfl trivial ?_ rfl
  simp only [Try.ntmps18, List.size_toArray, List.length_cons, List.length_nil, Nat.reduceAdd, Nat.reduceSub, Array.replicate_succ, Array.replicate_zero, List.push_toArray, List.append_toArray, List.nil_append, List.cons_append]
  refine wpIn_wide.2 ?_
  go_wp2_with fail
  refine KF.out.mono ?_
  rintro e w1 ⟨rfl, hw1⟩
  rw [HW0.out] at hw1
  have hw2 := hw1.symm
  subst hw2
  clear KF
  go_wp2_with fail
  refine (wpIn_wide (n := 0)).1 ?_
  apply range_lawP1 (gf := 23) (lb := #[.pointer (some ⟨w.heap.size + 1, 0, none⟩)]) rfl EG HSEQ.out (fun _ => rfl)
    (fun hi k W => ∃ v, GotI w w.heap.size m hi k v W) (fun _ _ _ _ => False) ?hI ?hIx ?hIn ?h0 _ ?assign ?body ?done ?stop
  case assign =>
    rintro l hi k W K _ _ hj hk hK
    have HJ := Lib.hid hj
    clear hj
    gi_wp2
    exact hK _ (Below.refl _ _) HJ.out
  case hI => exact fun hi => gotI_own (by have := H0.out.1; omega)
  case hIx => rintro c hi s A C row h; exact h.elim
  case hIn => exact fun hi k A C _ _ h hin => gotI_in h (by have := H0.out.1; omega) (by have := H0.out.1; omega) hin
  case h0 =>
    intro W' hb' _
    obtain ⟨hs0, hb0, hv0, _⟩ := H0.out
    exact ⟨.slice none 0 0, (hb'.block _ (by omega)).trans hv0, World.ownsRow_nil _ _ _ _, (fun g e => by cases e), bT' hb0 hb' hb0.size⟩
  case body =>
    rintro l2 hi k Wq hlo hhi ⟨v, hj⟩ hk
    obtain ⟨x, hx⟩ : ∃ x, gI m k = x := ⟨_, rfl⟩
    rw [hx]
    obtain ⟨i0, hi0, hz0, hz1, hz2⟩ := info_parts infoI
    have b0 : Wq.cell? ⟨w.heap.size, 0, none⟩ = some v := by unfold World.cell?; rw [hj.box]; rfl
    obtain ⟨p, cp, rfl⟩ : ∃ p cp, v = .slice p k cp := by
      rcases hj.row.2 with ⟨rfl, e⟩ | ⟨g, cap, cur, rfl, _⟩
      · exact ⟨none, 0, by rw [e]⟩
      · exact ⟨_, _, rfl⟩
    have HJ := Lib.hid (And.intro hj (And.intro hlo (And.intro hhi (And.intro hk hx))))
    have hrow := hj.row
    have hkk : k ≤ 1000 := by have := H0.out.2.2.2; omega
    clear hj hlo hhi hx hk
    gi_wp2_with (first
      | (refine wpListIn_append_own_at _ rfl _ _ 36 rfl w.heap.size 3 i0 (.int .i64 0) 1 8 Try.underlying36 hi0 hz0 hz1 hz2 rfl (by decide) _ _ _ rfl (hrow.alloc _) ⟨Wq.heap.size, 0, none⟩ 1 1 [.int .i64 x] rfl rfl (by
                have := World.ownsRow_lit (base := 0) (e := 3) (size := 1) Wq #[.int .i64 x] 1 (by omega) (by unfold maxLen; omega) rfl
                exact this.cells (g := Wq.heap.size) (by simp [Value.ownBlock])) (by
                intro u hu
                simp only [List.mem_cons, List.not_mem_nil, or_false] at hu
                subst hu
                rfl) (by unfold maxLen; omega) (by omega) (by have := HJ.out.1.below.size; simp; omega) ?_; intro v' w8 hown' hgrow hnil hloc; obtain ⟨g8, c8, rfl, _⟩ := hown'.form (by omega); have HN := Lib.hid (GotI.next (B := W0.heap.size) (lo := W0.heap.size + 2) (old := fun _ => False) HJ.out.1 HJ.out.2.2.2.1 (by have := H0.out.1; omega) HJ.out.2.2.1 (fun _ h => h.elim) hgrow (by rw [HJ.out.2.2.2.2]; exact hown') hloc); have hb8 := keep2 hgrow HJ.out.1.box (fun e => HJ.out.1.ne _ e.symm rfl); have b8 : w8.cell? ⟨w.heap.size, 0, none⟩ = some (.slice p k cp) := (by unfold World.cell?; rw [hb8]; rfl); have f8 := frozen_of_row _ w.heap.size 0 _ _ hb8; clear hown' hgrow hnil hloc hb8))
    exact HN.out
  case done =>
    rintro D hi W hD hlo ⟨v, hj⟩ hdef
    have c0 : W.cell? ⟨w.heap.size, 0, none⟩ = some v := by unfold World.cell?; rw [hj.box]; rfl
    have H1 := Lib.hid (And.intro hj (And.intro hdef (show w.heap.size + 2 ≤ D from by have := H0.out.1; omega)))
    clear hj hdef hD hlo
    go_wp2
    obtain ⟨hj, hdef, hD⟩ := H1.out
    refine ⟨by simp, .inl ⟨_, _, rfl, run_takeDeferred hdef, ?_⟩⟩
    have hrow := hj.row
    rw [List.take_length] at hrow
    refine ⟨_, results_tmp rfl _ _ _, v, rfl, ownsRow_keep hrow fun g e => World.putObj_heap_other (fun e2 => ?_), ⟨hj.below.os, hj.below.tape, hj.below.output, by have := hj.below.size; simpa using this, fun j hjj => (World.putObj_heap_other (by omega)).trans (hj.below.block j hjj)⟩⟩
    obtain ⟨cur, hc⟩ := ownsRow_cells hrow e
    rw [e2, hdef] at hc
    cases hc
  case stop => exact fun D hi c k W _ _ _ h _ => h.elim
end Go.Proofs.Ytgolbeoaomgmcaa
