/-
  gavotteref05's Push and Pop over this seat's translation: the document's answer for a queue of numbers, by a list. Conditions: those that each theorem states.
-/
import Derived.Test.YtgolbeoaomgmcaaQuStep
namespace Go.Proofs.Ytgolbeoaomgmcaa
open Go.RowKit Go.Shelf Go.Lib Go.Sort Qu

/-- A list in a block mb, whose items lie in row r. -/
structure RefS (W : World) (mb k : Nat) (r : Option Nat) (p : Option Addr) (c : Nat) (xs : List Int) : Prop where
  box : W.heap[mb]? = some (.cells #[.int .i64 k, .slice p xs.length c] 38 (0, 0))
  cap : xs.length ≤ c
  lie : xs = [] ∨ ∃ g off, r = some g ∧ p = some ⟨g, off, none⟩ ∧ ∀ j (hj : j < xs.length), W.cell? ⟨g, off + j, none⟩ = some (.int .i64 xs[j])
  row : ∀ g, r = some g → ∃ cur fr, W.heap[g]? = some (.cells cur 3 fr)
theorem RefS.same {W W' : World} {mb k c : Nat} {r : Option Nat} {p : Option Addr} {xs : List Int} (h : RefS W mb k r p c xs) (h1 : W'.heap[mb]? = W.heap[mb]?) (h2 : ∀ g, r = some g → W'.heap[g]? = W.heap[g]?) : RefS W' mb k r p c xs :=
  ⟨h1.trans h.box, h.cap, h.lie.imp id fun ⟨g, off, e, hp, hc⟩ => ⟨g, off, e, hp, fun j hj => (World.cell?_of_block (h2 g e)).trans (hc j hj)⟩, fun g e => by rw [h2 g e]; exact h.row g e⟩
theorem RefS.lt {W : World} {mb k c : Nat} {r : Option Nat} {p : Option Addr} {xs : List Int} (h : RefS W mb k r p c xs) : mb < W.heap.size ∧ ∀ g, r = some g → g < W.heap.size := ⟨(Array.getElem?_eq_some_iff.1 h.box).1, fun g e => by
  obtain ⟨_, _, hg⟩ := h.row g e
  exact (Array.getElem?_eq_some_iff.1 hg).1⟩
theorem RefS.ne {W : World} {mb k c : Nat} {r : Option Nat} {p : Option Addr} {xs : List Int} (h : RefS W mb k r p c xs) : ∀ g, r = some g → g ≠ mb := fun g e => by
  obtain ⟨_, _, hg⟩ := h.row g e
  rintro rfl
  have := hg.symm.trans h.box
  simp at this
theorem RefS.below {W W' : World} {mb k c : Nat} {r : Option Nat} {p : Option Addr} {xs : List Int} (h : RefS W mb k r p c xs) (hb : Below W.heap.size W W') : RefS W' mb k r p c xs :=
  h.same (hb.block _ h.lt.1) fun g hg => hb.block g (h.lt.2 g hg)

theorem appendInts (p : Option Addr) (c : Nat) (xs : List Int) (w : World) (hx : xs = [] ∨ ∃ g off, p = some ⟨g, off, none⟩ ∧ ∀ j (hj : j < xs.length), w.cell? ⟨g, off + j, none⟩ = some (.int .i64 xs[j])) (hlen : xs.length ≤ 1000000) :
    ∃ v W', (Builtin.append_ #[36, 36] 36 #[.slice none 0 0, .slice p xs.length c]).run Try.prog w = .ok v W' ∧ Below w.heap.size w W' ∧ W'.ownsRow w.heap.size 3 1 v xs.length (xs.map fun x => Value.int .i64 x) := by
  obtain ⟨i0, hi0, hz0, hz1, hz2⟩ := info_parts infoI
  have hown : w.ownsRow w.heap.size 3 1 (.slice none 0 0) 0 [] := World.ownsRow_nil _ _ _ _
  by_cases h0 : xs = []
  · subst h0
    exact ⟨.slice none 0 0, _, run_append_zero (P := Try.prog) _ 36 36 3 i0 1 w.heap.size Try.underlying36 hi0 _ 0 _ hown p c, Below.refl _ _, hown⟩
  · obtain ⟨g, off, rfl, hc⟩ := hx.resolve_left h0
    obtain ⟨v', W', hr, ho, hg, _⟩ := run_append_own (P := Try.prog) w w.heap.size 36 36 3 i0 (.int .i64 0) 1 8 Try.underlying36 hi0 hz0 hz1 hz2 rfl (by decide) _ 0 [] hown ⟨g, off, none⟩ xs.length c (xs.map fun x => Value.int .i64 x) (by simp) (fun j u hu => by
      have : (⟨g, off, none⟩ : Addr).add j = ⟨g, off + j, none⟩ := by unfold Addr.add; split <;> simp_all
      rw [this]
      have hj := (List.getElem?_eq_some_iff.1 hu).1
      rw [List.length_map] at hj
      rw [hc j hj]
      rw [List.getElem?_map, List.getElem?_eq_getElem hj] at hu
      exact hu) (fun u hu => by
      obtain ⟨x, _, rfl⟩ := List.mem_map.1 hu
      rfl) (by unfold maxLen; omega) (by omega) (Nat.le_refl _)
    simp only [Nat.zero_add, List.nil_append] at ho
    exact ⟨v', W', hr, (Below.refl w.heap.size w).grown hg (Nat.le_refl _) (fun k e => by cases e), ho⟩

set_option maxHeartbeats 8000000 in
set_option maxRecDepth 100000 in
theorem rpush_c {mb k c : Nat} {r : Option Nat} {p : Option Addr} {xs : List Int} {w : World} (x : Int) (h : RefS w mb k r p c xs) (hlt : xs.length < k) (hlen : xs.length ≤ 1000) :
    Calls Try.prog 12 #[.pointer (some ⟨mb, 0, none⟩), .int .i64 x] w fun e w' => e = .returned (.int .i64 0) ∧ ∃ r' p' c', RefS w' mb k r' p' c' (xs ++ [x]) ∧ (∀ g, r' = some g → w.heap.size ≤ g) ∧ Touch mb none w w' := by
  have mixed : Try.prog.follows .mixedOrders = true := by kernel_rfl
  obtain ⟨i0, hi0, hz0, hz1, hz2⟩ := info_parts infoI
  have hd1 : decide ((xs.length : Int) ≥ (k : Int)) = false := decide_eq_false (by omega)
  have hd2 : ¬ (k : Int) ≤ (xs.length : Int) := by omega
  have hd3 : decide (k ≤ xs.length) = false := decide_eq_false (by omega)
  obtain ⟨c0, c1, _⟩ := cell_two h.box
  have KA := Lib.hid fun (W : World) (hb : Below w.heap.size w W) => appendInts p c xs W ((h.below hb).lie.imp id fun ⟨g, off, _, e2, e3⟩ => ⟨g, off, e2, e3⟩) (by omega)
  have HH := Lib.hid h
  obtain ⟨n, hn⟩ : ∃ n, xs.length = n := ⟨_, rfl⟩
  have HN := Lib.hid hn
  rw [hn] at hd1 hd2 hd3 c1 hlen KA
  clear h hlt hn
  go_enter Try.func12, Try.ntmps12
  go_wp2_with fail
  go_quiet (fail)
  have hb1 := (G.drew w nq).below
  obtain ⟨v4, w4, hrun, hb4, hown4⟩ := KA.out (w.drewN nq) hb1
  have HRUN := Lib.hid hrun
  have hbw4 := bT2 hb1 hb4
  have HO := Lib.hid (show w4.ownsRow w.heap.size 3 1 v4 n (xs.map fun x => Value.int .i64 x) from hown4)
  have HB4 := Lib.hid hbw4
  have d0 := kc' hb1 c0
  have d1 := kc' hb1 c1
  have e1 := kc' hbw4 c1
  obtain ⟨p4, c4, rfl⟩ : ∃ p c, v4 = .slice p n c := by
    rcases hown4.2 with ⟨rfl, e⟩ | ⟨g, cap, cur, rfl, _⟩
    · exact ⟨none, 0, by rw [e]⟩
    · exact ⟨_, _, rfl⟩
  clear c0 c1 hb1 hrun hown4 hb4 hbw4
  go_wp2_with (first
    | (at_builtin; refine wpList_append_run rfl _ _ _ rfl rfl rfl HRUN.out ?_; clear d0 d1)
    | (at_builtin; refine wpList_append_own _ rfl _ _ 36 rfl w.heap.size 3 i0 (.int .i64 0) 1 8 Try.underlying36 hi0 hz0 hz1 hz2 rfl (by decide) _ _ _ rfl (HO.out.alloc _) ⟨w4.heap.size, 0, none⟩ 1 1 [.int .i64 x] rfl rfl (by
                have := World.ownsRow_lit (base := 0) (e := 3) (size := 1) w4 #[.int .i64 x] 1 (by omega) (by unfold maxLen; omega) rfl
                exact this.cells (g := w4.heap.size) (by simp [Value.ownBlock])) (by
                intro u hu
                simp only [List.mem_cons, List.not_mem_nil, or_false] at hu
                subst hu
                rfl) (by unfold maxLen; omega) (by omega) (by have := HB4.out.size; simp; omega) ?_; intro v5 w5 hown5 hg5 hnil5; obtain ⟨g5, c5, rfl, _⟩ := hown5.form (by omega); have hbw5 : Below w.heap.size w w5 := (bA' HB4.out HB4.out.size _).grown hg5 (by have := HB4.out.size; simp; omega) (fun q e => (HO.out.lt q e).1); have HO5 := Lib.hid hown5; have HB5 := Lib.hid hbw5; have z1 := ((HH.out.below hbw5).box); have x1 := (cell_two z1).2.1; have y1 := frozen_of_row _ mb 1 _ _ z1; clear hown5 hg5 hnil5 hbw5 z1))
  go_ret
  have hown := HO5.out
  have h := HH.out
  have hn := HN.out
  subst hn
  have hb5 := HB5.out
  have hm := (Array.getElem?_eq_some_iff.1 h.box).1
  have hlt5 := hown.lt g5 rfl
  have hne : g5 ≠ mb := by omega
  refine ⟨rfl, some g5, some ⟨g5, 0, none⟩, c5, ⟨?_, ?_, .inr ⟨g5, 0, rfl, rfl, fun j hj => ?_⟩, fun g e => ?_⟩, fun g e => by cases e; exact hlt5.1, ⟨hb5.os, hb5.tape, hb5.output, by simpa using hb5.size, fun b hb hne1 _ => (st_heap hne1).trans (hb5.block b hb)⟩⟩
  · rw [List.length_append, List.length_singleton]
    exact heap_setCell_same w5 mb 1 _ _ _ (h.below hb5).box
  · rw [List.length_append, List.length_singleton]
    rcases id hown.2 with ⟨e, _⟩ | ⟨g, cap, cur, e, _, _, hle, _⟩
    · simp at e
    · simp at e
      omega
  · rw [st_cell hne, Nat.zero_add, hown.cellAt j (by rw [Nat.mul_one]; simpa using hj)]
    rw [show xs.map (fun x => Value.int .i64 x) ++ [Value.int .i64 x] = (xs ++ [x]).map (fun x => Value.int .i64 x) from by simp, List.getElem?_map, List.getElem?_eq_getElem hj]
    rfl
  · cases e
    obtain ⟨cur, hc⟩ := ownsRow_cells hown rfl
    exact ⟨cur, _, (st_heap hne).trans hc⟩
set_option maxHeartbeats 4000000 in
theorem rpushFull_c {mb k c : Nat} {r : Option Nat} {p : Option Addr} {xs : List Int} {w : World} (x : Int) (h : RefS w mb k r p c xs) (hlt : ¬ xs.length < k) :
    Calls Try.prog 12 #[.pointer (some ⟨mb, 0, none⟩), .int .i64 x] w fun e w' => e = .returned (.int .i64 14) ∧ G w w' := by
  have mixed : Try.prog.follows .mixedOrders = true := by kernel_rfl
  have hd1 : decide ((xs.length : Int) ≥ (k : Int)) = true := decide_eq_true (by omega)
  have hd2 : (k : Int) ≤ (xs.length : Int) := by omega
  obtain ⟨c0, c1, _⟩ := cell_two h.box
  obtain ⟨n, hn⟩ : ∃ n, xs.length = n := ⟨_, rfl⟩
  rw [hn] at hd1 hd2 c1
  clear h hlt hn
  go_enter Try.func12, Try.ntmps12
  go_wp2_with fail
  go_quiet (fail)
  go_wp2
  go_ret
  exact ⟨rfl, G.drew _ _⟩
/-- How Pop ends. -/
def RPop (mb k : Nat) (r : Option Nat) (x : Int) (xs : List Int) (w : World) (e : Ending) (w' : World) : Prop := e = .returned (.tuple #[.int .i64 x, .bool true]) ∧ ∃ r' p' c', RefS w' mb k r' p' c' xs ∧ (∀ g, r' = some g → r = some g) ∧ Touch mb none w w'
set_option maxHeartbeats 4000000 in
set_option maxRecDepth 100000 in
theorem rpop_c {mb k c : Nat} {r : Option Nat} {p : Option Addr} {x : Int} {xs : List Int} {w : World} (h : RefS w mb k r p c (x :: xs)) (hlen : xs.length ≤ 1000) :
    Calls Try.prog 13 #[.pointer (some ⟨mb, 0, none⟩)] w (RPop mb k r x xs w) := by
  obtain ⟨c0, c1, _⟩ := cell_two h.box
  have f1 := frozen_of_row _ mb 1 _ _ h.box
  rcases h.lie with e | ⟨g, off, hr, rfl, hc⟩
  · cases e
  have r0 := hc 0 (by simp)
  simp only [Nat.add_zero, List.getElem_cons_zero] at r0
  have hcap := h.cap
  rw [List.length_cons] at hcap
  have HH := Lib.hid (And.intro h (And.intro hr hc))
  obtain ⟨n, hn⟩ : ∃ n, (x :: xs).length = n := ⟨_, rfl⟩
  have hz : ((n : Int) == 0) = false := by rw [beq_eq_false_iff_ne]; simp at hn; omega
  have hz2 : ¬ (n : Int) = 0 := by simp at hn; omega
  have hz3 : (0 : Int) < (n : Int) := by simp at hn; omega
  have hz4 : 1 ≤ n := by omega
  have hz5 : n ≤ c := by simp at hn; omega
  rw [hn] at c1
  have hend : ∀ (p' : Option Addr) (c' : Nat), n - 1 ≤ c' → (xs ≠ [] → p' = some ⟨g, off + 1, none⟩) → RefS (w.setCell ⟨mb, 1, none⟩ (.slice p' (n - 1) c')) mb k r p' c' xs ∧ Touch mb none w (w.setCell ⟨mb, 1, none⟩ (.slice p' (n - 1) c')) := by
    intro p' c' hc1 hp1
    have hl : n - 1 = xs.length := by rw [← hn, List.length_cons]; rfl
    have hne : g ≠ mb := h.ne g hr
    rw [hl] at hc1 ⊢
    refine ⟨⟨heap_setCell_same w mb 1 _ _ _ h.box, hc1, ?_, fun g' e => by rw [st_heap (h.ne g' e)]; exact h.row g' e⟩, ⟨rfl, rfl, rfl, by simp, fun b _ hne1 _ => st_heap hne1⟩⟩
    by_cases hx : xs = []
    · exact .inl hx
    · refine .inr ⟨g, off + 1, hr, hp1 hx, fun j hj => ?_⟩
      rw [st_cell hne]
      have := hc (j + 1) (by simpa using hj)
      rw [show off + (j + 1) = off + 1 + j from by omega] at this
      exact this
  have HE := Lib.hid (And.intro hend (show n = 1 → xs = [] from fun e => List.eq_nil_of_length_eq_zero (by rw [e, List.length_cons] at hn; omega)))
  clear h hr hc hn hcap hend
  by_cases hc1 : c = 1
  · subst hc1
    obtain rfl : n = 1 := by omega
    go_enter Try.func13, Try.ntmps13
    go_wp2
    refine bodyPost_ret (results_tmp2 rfl _ _ _) rfl ?_
    obtain ⟨e1, e2⟩ := HE.out.1 (some ⟨g, off, none⟩) 0 (by omega) (fun h => (h (HE.out.2 (by first | trivial | rfl))).elim)
    exact ⟨rfl, r, _, _, e1, fun _ h => h, e2⟩
  · go_enter Try.func13, Try.ntmps13
    go_wp2
    refine bodyPost_ret (results_tmp2 rfl _ _ _) rfl ?_
    obtain ⟨e1, e2⟩ := HE.out.1 (some ⟨g, off + 1, none⟩) (c - 1) (by omega) (fun _ => rfl)
    exact ⟨rfl, r, _, _, e1, fun _ h => h, e2⟩
set_option maxHeartbeats 4000000 in
theorem rpopNo_c {mb k c : Nat} {r : Option Nat} {p : Option Addr} {w : World} (h : RefS w mb k r p c []) :
    Calls Try.prog 13 #[.pointer (some ⟨mb, 0, none⟩)] w fun e w' => e = .returned (.tuple #[.int .i64 0, .bool false]) ∧ w = w' := by
  obtain ⟨c0, c1, _⟩ := cell_two h.box
  clear h
  go_enter Try.func13, Try.ntmps13
  go_wp2
  refine bodyPost_ret (results_tmp2 rfl _ _ _) rfl ?_
  exact ⟨rfl, rfl⟩
end Go.Proofs.Ytgolbeoaomgmcaa
