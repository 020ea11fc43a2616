/-
  track's things over this seat's translation: the things of the entries that are gone over. Conditions: those that each theorem states.
-/
import Derived.Test.YtibphmddepfgjaaT7D
namespace Go.Proofs.Ytibphmddepfgjaa.Tr
open Go.RowKit Go.Shelf Go.Lib Go.Sort
attribute [local go_sem] Oper.semAt_some

/-- An entry as a value. -/
abbrev entV (e : En) : Value := .agg #[.int .i64 e.1.1, .int .i64 e.1.2.1, .int .i64 e.1.2.2, .int .i64 e.2]
theorem infoIn : (Try.prog.info? 3).map (fun i => (i.zero, i.size, i.bytes)) = some (some (.int .i64 0), 1, 8) := by kernel_rfl
theorem SeqN.on {gf : Nat} {pre lb : Array Value} {N : Nat} {ar : Nat → Array Value} {safe : Nat → Obj → Prop} {w W : World} (h : SeqN gf pre lb N ar safe w) (hb : Below w.heap.size w W) : SeqN gf pre lb N ar safe W :=
  fun l J Jx V hV hJ hJx hY h0 => h l J Jx V (bT' hb hV hb.size) hJ hJx hY h0
/-- What things has collected so far. -/
structure ThI (w : World) (M : List En) (k : Nat) (v : Value) (W : World) : Prop where
  box : W.heap[w.heap.size]? = some (.cells #[v] 37 (0, 0))
  row : W.ownsRow w.heap.size 3 1 v k ((M.take k).map fun e => Value.int .i64 e.2)
  below : Below w.heap.size w W
theorem ThI.ne {w : World} {M : List En} {k : Nat} {v : Value} {W : World} (h : ThI w M k v W) : ∀ g, v.ownBlock = some g → g ≠ w.heap.size := fun g e => by
  obtain ⟨cur, hc⟩ := ownsRow_cells h.row e
  rintro rfl
  have := h.box.symm.trans hc
  simp at this
theorem ThI.keep {w A C : World} {M : List En} {k : Nat} {v : Value} (h : ThI w M k v A) (hb : Below A.heap.size A C) : ThI w M k v C := ⟨kbE h.box hb, ownsRow_below h.row hb, bT' h.below hb h.below.size⟩
theorem thI_own {w : World} {B : Nat} {M : List En} (hB : w.heap.size ≤ B) : OwnFrom B (fun k W => ∃ v, ThI w M k v W) := by
  rintro k A C row ⟨v, h⟩ hgr hr
  have hk : ∀ (b : Nat) (cur : Array Value) (t : TypeId) (fr : Nat × Nat), A.heap[b]? = some (Obj.cells cur t fr) → C.heap[b]? = A.heap[b]? := fun b cur t fr hb => hgr.block b (Array.getElem?_eq_some_iff.1 hb).1 fun e => by
    obtain ⟨_, o, ho, hc⟩ := hr b e.symm
    rw [hb] at ho
    cases ho
    cases hc
  refine ⟨v, (hk _ _ _ _ h.box).trans h.box, ownsRow_keep h.row fun g e => ?_, ⟨hgr.os.trans h.below.os, hgr.tape.trans h.below.tape, hgr.output.trans h.below.output, Nat.le_trans h.below.size hgr.size, fun j hj => (hgr.block j (by have := h.below.size; omega) fun e => by have := (hr j e.symm).1; omega).trans (h.below.block j hj)⟩⟩
  obtain ⟨cur, hc⟩ := ownsRow_cells h.row e
  exact hk _ _ _ _ hc
theorem take_things {M : List En} {k : Nat} (hk : k < M.length) : (M.take (k + 1)).map (fun e => Value.int .i64 e.2) = (M.take k).map (fun e => Value.int .i64 e.2) ++ [.int .i64 (gE M k).2] := by
  rw [take_snocE (gE_get hk), List.map_append]
  rfl
theorem ThI.next {w Wq w8 : World} {B : Nat} {M : List En} {k : Nat} {v v' : Value} {o : Obj} (hj : ThI w M k v Wq) (hk : k < M.length)
    (hg : (Wq.alloc o).grownBy w8 v.ownBlock) (hown : w8.ownsRow w.heap.size 3 1 v' (k + 1) ((M.take k).map (fun e => Value.int .i64 e.2) ++ [.int .i64 (gE M k).2])) (hloc : v'.ownBlock = v.ownBlock ∨ v'.ownBlock = some (Wq.alloc o).heap.size) :
    KeepsFrom B Wq (w8.setCell ⟨w.heap.size, 0, none⟩ v') ∧ Kept (fun b o => o.isCells = true ∧ b < w.heap.size) Wq (w8.setCell ⟨w.heap.size, 0, none⟩ v') ∧ ∃ v, ThI w M (k + 1) v (w8.setCell ⟨w.heap.size, 0, none⟩ v') := by
  have hh : ∀ b, b ≠ w.heap.size → (w8.setCell ⟨w.heap.size, 0, none⟩ v').heap[b]? = w8.heap[b]? := fun b hb => heap_setCell_other _ ⟨w.heap.size, 0, none⟩ b _ hb
  have h8 : ∀ b, b < Wq.heap.size → some b ≠ v.ownBlock → w8.heap[b]? = Wq.heap[b]? := fun b hb hne => (hg.block b (by rw [World.size_alloc]; omega) hne).trans (Below.heap_alloc _ _ _ hb)
  have hsz : Wq.heap.size ≤ w8.heap.size := by have := hg.size; rw [World.size_alloc] at this; omega
  have hbl := (Array.getElem?_eq_some_iff.1 hj.box).1
  have hbn : some w.heap.size ≠ v.ownBlock := fun e => hj.ne _ e.symm rfl
  have hbox8 := (h8 _ hbl hbn).trans hj.box
  have hkeep : ∀ b, b < Wq.heap.size → some b ≠ v.ownBlock → b ≠ w.heap.size → (w8.setCell ⟨w.heap.size, 0, none⟩ v').heap[b]? = Wq.heap[b]? := fun b h1 h2 h3 => (hh b h3).trans (h8 b h1 h2)
  have hlow : ∀ b, b < w.heap.size → some b ≠ v.ownBlock := fun b hb e => by have := (hj.row.lt b e.symm).1; omega
  refine ⟨⟨by simpa using hsz, fun b u hb hu hc => ?_⟩, ⟨by simpa using hsz, fun b u hb hu => ?_⟩, v', ?_, ?_, ?_⟩
  · refine (hkeep b (Array.getElem?_eq_some_iff.1 hu).1 (fun e => ?_) (fun e => ?_)).trans hu
    · obtain ⟨cur, h⟩ := ownsRow_cells hj.row e.symm
      rw [h] at hu
      cases hu
      cases hc
    · rw [e, hj.box] at hu
      cases hu
      cases hc
  · have := hb.2
    exact (hkeep b (Array.getElem?_eq_some_iff.1 hu).1 (hlow b hb.2) (by omega)).trans hu
  · exact heap_setCell_same w8 w.heap.size 0 _ _ v' hbox8
  · have hr : w8.ownsRow w.heap.size 3 1 v' (k + 1) ((M.take (k + 1)).map fun e => Value.int .i64 e.2) := by
      rw [take_things hk]
      exact hown
    refine ownsRow_keep hr fun g e => hh g fun e2 => ?_
    rcases hloc with h | h
    · exact hj.ne g (by rw [← h]; exact e) e2
    · rw [h] at e
      simp at e
      omega
  · have hb := hj.below
    exact ⟨hg.os.trans hb.os, hg.tape.trans hb.tape, hg.output.trans hb.output, by have := hb.size; simp; omega, fun j hjj => (hkeep j (by have := hb.size; omega) (hlow j hjj) (by omega)).trans (hb.block j hjj)⟩
/-- The temporaries of a round. -/
def actH (bs : Nat) (f : Value) (p : Int) (x : En) (bx : Nat) : Act :=
  { tmps := #[f, undef, .slice none 0 0, .pointer (some ⟨bs, 0, none⟩), undef, .pointer (some ⟨bx, 0, none⟩), f, .int .i64 p, entV x, undef, undef, undef, undef, undef, undef], defers := [] }

set_option maxRecDepth 100000 in
set_option maxHeartbeats 8000000 in
theorem things_c (gf : Nat) (lb : Array Value) (M : List En) (ps : Nat → Int) (hm : M.length ≤ 2000000) (w : World) (EG : ∀ args w, (callFunc gf args).run Try.prog w = .ok (.enter gf args) w)
    (hseq : SeqN gf #[] lb M.length (fun j => #[.int .i64 (ps j), entV (gE M j)]) (fun b o => o.isCells = true ∧ b < w.heap.size) w) :
    Calls Try.prog 29 #[.func (.func gf) #[] lb] w fun e w' => ∃ v, e = .returned v ∧ w'.ownsRow w.heap.size 3 1 v M.length (M.map fun e => Value.int .i64 e.2) ∧ Below w.heap.size w w' := by
  obtain ⟨i0, hi0, hz0, hz1, hz2⟩ := info_parts infoIn
  obtain ⟨W0, hW0⟩ : ∃ W0, w.alloc (.cells #[.slice none 0 0] 37) = W0 := ⟨_, rfl⟩
  have hs0 : W0.heap.size = w.heap.size + 1 := by rw [← hW0]; simp
  have hb0 : Below w.heap.size w W0 := hW0 ▸ bA' (Below.refl _ w) (Nat.le_refl _) _
  have hv0 : W0.heap[w.heap.size]? = some (.cells #[.slice none 0 0] 37 (0, 0)) := hW0 ▸ World.alloc_heap_new w _
  have hi2 : ThI w M 0 (.slice none 0 0) W0 := ⟨hv0, World.ownsRow_nil _ _ _ _, hb0⟩
  have HS := Lib.hid (SeqN.on hseq hb0)
  have HE := Lib.hid EG
  have HW0 := Lib.hid hW0
  have H2 := Lib.hid (And.intro hi2 (And.intro hs0 hm))
  clear hseq hW0 hv0 hb0 hs0 hm hi2 EG
  refine (callsIn_wide (n := 0)).1 ?_
  refine callsIn_of_wp_marks Try.func29 rfl trivial ?_ rfl
  simp only [Try.ntmps29, List.size_toArray, List.length_cons, List.length_nil, Nat.reduceAdd, Nat.reduceSub, Array.replicate_succ, Array.replicate_zero, List.push_toArray, List.append_toArray, List.nil_append, List.cons_append]
  gi_wp2_with fail
  rw [HW0.out]
  refine range_law (gf := gf) (pre := #[]) (lb := lb) rfl HE.out (fun bb o h => h.1) HS.out (fun _ => rfl)
    (fun k W => ∃ v, ThI w M k v W) (fun _ _ _ => False) (thI_own (by have := H2.out.2.1; omega)) ?hIx ⟨_, H2.out.1⟩ (fun k a' W => ∃ bx, a' = actH w.heap.size (.func (.func gf) #[] lb) (ps k) (gE M k) bx ∧ W.heap[bx]? = some (.cells #[.int .i64 (gE M k).1.1, .int .i64 (gE M k).1.2.1, .int .i64 (gE M k).1.2.2, .int .i64 (gE M k).2] 71 (0, 0)) ∧ ∃ v, W.heap[w.heap.size]? = some (.cells #[v] 37 (0, 0)) ∧ v.ownBlock ≠ some bx ∧ bx ≠ w.heap.size) ?hAx ?assign ?body ?done ?stop
  case hIx => rintro c s A C row h; exact h.elim
  case stop => exact fun D c k W _ _ h _ => h.elim
  case hAx =>
    rintro k a' s A C row ⟨bx, e, hb, v, hv, hvb, hne⟩ hgr hr
    have hk : ∀ (b : Nat) (cur : Array Value) (t : TypeId) (fr : Nat × Nat), A.heap[b]? = some (Obj.cells cur t fr) → C.heap[b]? = A.heap[b]? := fun b cur t fr hb => hgr.block b (Array.getElem?_eq_some_iff.1 hb).1 fun e => by
      obtain ⟨_, o, ho, hc⟩ := hr b e.symm
      rw [hb] at ho
      cases ho
      cases hc
    exact ⟨bx, e, (hk _ _ _ _ hb).trans hb, v, (hk _ _ _ _ hv).trans hv, hvb, hne⟩
  case assign =>
    rintro l k Wq K ⟨v, hj⟩ hk hsz hK
    have hbq := bA' (Below.refl Wq.heap.size Wq) (Nat.le_refl _) (.cells #[.int .i64 (gE M k).1.1, .int .i64 (gE M k).1.2.1, .int .i64 (gE M k).1.2.2, .int .i64 (gE M k).2] 71)
    have H1 := Lib.hid (And.intro (hj.keep hbq) (And.intro hbq (And.intro (show v.ownBlock ≠ some Wq.heap.size from fun e => by have := (hj.row.lt _ e).2; omega) (show Wq.heap.size ≠ w.heap.size from by have := (Array.getElem?_eq_some_iff.1 hj.box).1; omega))))
    have HKK := Lib.hid hK
    obtain ⟨x, hx⟩ : ∃ x, gE M k = x := ⟨_, rfl⟩
    rw [hx] at H1 HKK ⊢
    clear hj hbq hK hx
    gi_wp2
    exact HKK.out _ _ H1.out.2.1 ⟨v, H1.out.1⟩ ⟨Wq.heap.size, rfl, World.alloc_heap_new Wq _, v, H1.out.1.box, H1.out.2.2.1, H1.out.2.2.2⟩
  case body =>
    rintro l k a' Wq ⟨v, hj⟩ hsz ⟨bx, rfl, hbx, v2, hv2, hvb, hne⟩ hk
    obtain rfl : v = v2 := by
      have := hj.box.symm.trans hv2
      simpa using this
    obtain ⟨x, hx⟩ : ∃ x, gE M k = x := ⟨_, rfl⟩
    rw [hx] at hbx ⊢
    have x3 : Wq.cell? ⟨bx, 3, none⟩ = some (.int .i64 x.2) := by unfold World.cell?; rw [hbx]; rfl
    have b0 : Wq.cell? ⟨w.heap.size, 0, none⟩ = some v := by unfold World.cell?; rw [hj.box]; rfl
    obtain ⟨p, cp, rfl⟩ : ∃ p cp, v = .slice p k cp := by
      rcases hj.row.2 with ⟨rfl, e⟩ | ⟨g, cap, cur, rfl, _⟩
      · exact ⟨none, 0, by rw [e]⟩
      · exact ⟨_, _, rfl⟩
    have hk1 : k ≤ 2000000 := by have := H2.out.2.2; omega
    have HJ := Lib.hid (And.intro hj (And.intro hk hx))
    have HK1 := Lib.hid hk1
    have HROW := Lib.hid hj.row
    clear hj hbx hv2 hsz hvb hne hx hk hk1
    unfold actH
    gi_wp2_with (first
      | (refine wpListIn_append_own_at _ rfl _ _ 37 rfl w.heap.size 3 i0 (.int .i64 0) 1 8 Try.underlying37 hi0 hz0 hz1 hz2 rfl (by decide) _ _ _ rfl (HROW.out.alloc _) ⟨Wq.heap.size, 0, none⟩ 1 1 [.int .i64 x.2] rfl rfl (by
                have := World.ownsRow_lit (base := 0) (e := 3) (size := 1) Wq #[.int .i64 x.2] 1 (by omega) (by unfold maxLen; omega) rfl
                exact this.cells (g := Wq.heap.size) (by simp [Value.ownBlock])) (by
                intro u hu
                simp only [List.mem_cons, List.not_mem_nil, or_false] at hu
                subst hu
                rfl) (by unfold maxLen; have := HK1.out; omega) (by have := HK1.out; omega) (by have := HJ.out.1.below.size; simp; omega) ?_; intro v' w8 hown' hgrow hnil hloc; obtain ⟨g8, c8, rfl, _⟩ := hown'.form (by omega); have HN := Lib.hid (ThI.next (B := W0.heap.size) HJ.out.1 HJ.out.2.1 hgrow (by rw [HJ.out.2.2]; exact hown') hloc); have hb8 : w8.heap[w.heap.size]? = some (.cells #[.slice p k cp] 37 (0, 0)) := (hgrow.block _ (by have := (Array.getElem?_eq_some_iff.1 HJ.out.1.box).1; rw [World.size_alloc]; omega) (fun e => HJ.out.1.ne _ e.symm rfl)).trans ((Below.heap_alloc _ _ _ (Array.getElem?_eq_some_iff.1 HJ.out.1.box).1).trans HJ.out.1.box); have b8 : w8.cell? ⟨w.heap.size, 0, none⟩ = some (.slice p k cp) := (by unfold World.cell?; rw [hb8]; rfl); have f8 := frozen_of_row _ w.heap.size 0 _ _ hb8; clear hown' hgrow hnil hloc hb8))
    exact HN.out
  case done =>
    rintro D W hD ⟨v, hj⟩ hdef
    have c0 : W.cell? ⟨w.heap.size, 0, none⟩ = some v := by unfold World.cell?; rw [hj.box]; rfl
    have H1 := Lib.hid (And.intro hj (And.intro hdef (show w.heap.size + 1 ≤ D from by have := H2.out.2.1; omega)))
    clear hj hdef hD
    gi_wp2
    obtain ⟨hj, hdef, hD⟩ := H1.out
    refine ⟨by simp, .inl ⟨_, _, rfl, run_takeDeferred hdef, ?_⟩⟩
    have hrow := hj.row
    rw [List.take_length] at hrow
    refine ⟨_, results_tmp rfl _ _ _, v, rfl, ownsRow_keep hrow fun g e => World.putObj_heap_other (fun e2 => ?_), ⟨hj.below.os, hj.below.tape, hj.below.output, by have := hj.below.size; simpa using this, fun j hjj => (World.putObj_heap_other (by omega)).trans (hj.below.block j hjj)⟩⟩
    obtain ⟨cur, hc⟩ := ownsRow_cells hrow e
    rw [e2, hdef] at hc
    cases hc
end Go.Proofs.Ytibphmddepfgjaa.Tr
