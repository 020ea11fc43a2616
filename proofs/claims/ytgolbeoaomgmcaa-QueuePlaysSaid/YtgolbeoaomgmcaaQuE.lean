/-
  queue's Copy, grow, Push, Pop over this seat's translation. Conditions: those that each theorem states.
-/
import Derived.Test.YtgolbeoaomgmcaaQuD
namespace Go.Proofs.Ytgolbeoaomgmcaa
open Go.RowKit Go.Shelf Go.Lib Go.Sort Qu

theorem straight_at {q : Nat} {p : Option Addr} {R : List Int} {f k : Nat} {xs : List Int} {w : World} (n : Nat) (h : QueS w q p R f k xs) (hn : xs.length ≤ n) (hn2 : n ≤ 2000000) (W : World) (hb : Below w.heap.size w W) :
    Calls Try.prog 22 #[.pointer (some ⟨q, 0, none⟩), .int .i64 n] W fun e w' => ∃ g, w.heap.size ≤ g ∧ e = .returned (.slice (some ⟨g, 0, none⟩) n n) ∧ w'.heap[g]? = some (rowO (str xs n xs.length)) ∧ Below W.heap.size W w' :=
  (straight_c n (h.below hb) hn hn2).mono fun _ _ ⟨h1, h2, h3⟩ => ⟨W.heap.size, hb.size, h1, h2, h3⟩

set_option maxHeartbeats 4000000 in
set_option maxRecDepth 100000 in
theorem copy_c {q : Nat} {p : Option Addr} {R : List Int} {f k : Nat} {xs : List Int} {w : World} (h : QueS w q p R f k xs) :
    Calls Try.prog 15 #[.pointer (some ⟨q, 0, none⟩)] w fun e w' => ∃ c g, e = .returned (.pointer (some ⟨c, 0, none⟩)) ∧ w.heap.size ≤ c ∧ w.heap.size ≤ g ∧ QueS w' c (some ⟨g, 0, none⟩) xs 0 k xs ∧ Below w.heap.size w w' := by
  have mixed : Try.prog.follows .mixedOrders = true := by kernel_rfl
  have hlen := h.len
  have KS := Lib.hid (straight_at xs.length h (Nat.le_refl _) (by omega))
  have hstr : str xs xs.length xs.length = xs := by simp [str]
  rw [hstr] at KS
  have hring : Ring xs 0 xs := by have := str_ring (Nat.le_refl xs.length); rwa [hstr] at this
  obtain ⟨_, _, c2, c3⟩ := cell_four h.box
  have HR := Lib.hid (And.intro hring (And.intro h.room hlen))
  obtain ⟨n, hn⟩ : ∃ n, xs.length = n := ⟨_, rfl⟩
  rw [hn] at c2 KS
  have HN := Lib.hid hn
  have e2 : w.drew.cell? ⟨q, 2, none⟩ = some (.int .i64 n) := c2
  have e3 : w.drew.cell? ⟨q, 3, none⟩ = some (.int .i64 k) := c3
  have WD : Below w.heap.size w w.drew := Below.drew (Below.refl _ _)
  clear h hlen hstr hring hn
  go_enter Try.func15, Try.ntmps15
  go_wp2_with fail
  go_region_held3 (fun w' => w'.cell? ⟨q, 2, none⟩ = some (.int .i64 n) ∧ w'.cell? ⟨q, 3, none⟩ = some (.int .i64 k) ∧ Below w.heap.size w w')
    (first | with_reducible exact ⟨e2, e3, WD⟩ | (go_split_ands; with_reducible exact ⟨kc' hb (by assumption), kc' hb (by assumption), bT2 (by assumption) hb⟩) | (go_split_ands; have hbx : Below w.heap.size w w8 := (by assumption); exact ⟨kc' (bA' (Below.refl w8.heap.size w8) (Nat.le_refl _) _) (by assumption), kc' (bA' (Below.refl w8.heap.size w8) (Nat.le_refl _) _) (by assumption), hbx.alloc hbx.size _⟩))
    (first
      | (go_at_call 22; refine (KS.out _ (by repeat (first | with_reducible assumption | with_reducible exact Below.refl _ _ | with_reducible refine Below.drew ?_ | with_reducible refine bT2 ?_ (by assumption)))).mono ?_; rintro e w8 ⟨g, hg, rfl, hrow, hb⟩; have HP := Lib.hid (And.intro hg hrow); have HW := Lib.hid (show Below w.heap.size w w8 from bT2 (by first | with_reducible assumption | with_reducible exact Below.refl _ _) hb); clear hg hrow))
  all_goals go_wp2
  all_goals go_ret
  all_goals
    obtain ⟨hg, hrow⟩ := HP.out
    obtain ⟨hring, hroom, hlen⟩ := HR.out
    have hn := HN.out
    subst hn
    refine ⟨_, g, rfl, HW.out.size, hg, ⟨World.alloc_heap_new w8 _, .inr ⟨g, rfl, ?_⟩, hring, hroom.1, hroom.2.1, hlen.1⟩, HW.out.alloc HW.out.size _⟩
    exact (Below.heap_alloc _ _ _ (Array.getElem?_eq_some_iff.1 hrow).1).trans hrow
set_option maxHeartbeats 1000000 in
theorem copyNil_c (w : World) : Calls Try.prog 15 #[.pointer none] w fun e w' => e = .returned (.pointer none) ∧ w = w' := by
  go_enter Try.func15, Try.ntmps15
  go_wp2
  go_ret
  exact ⟨rfl, rfl⟩

/-- A place of a row is a place of a row in what is laid behind. -/
theorem frz {W W' : World} {a : Addr} {v : Value} (hb : Below W.heap.size W W') (h : W.cell? a = some v) (hf : W.frozen? a = false) : W'.frozen? a = false := by
  rw [← hf]
  unfold World.frozen?
  rw [hb.block _ (World.block_lt_of_cell? _ _ h)]

theorem st_cell {W : World} {g i b j : Nat} {v : Value} (h : b ≠ g) : (W.setCell ⟨g, i, none⟩ v).cell? ⟨b, j, none⟩ = W.cell? ⟨b, j, none⟩ := World.cell?_of_block (heap_setCell_other _ ⟨g, i, none⟩ b _ h)
theorem st_frz {W : World} {g i b j : Nat} {v : Value} (h : b ≠ g) : (W.setCell ⟨g, i, none⟩ v).frozen? ⟨b, j, none⟩ = W.frozen? ⟨b, j, none⟩ := by
  unfold World.frozen?
  rw [heap_setCell_other _ ⟨g, i, none⟩ b _ h]
theorem st_heap {W : World} {g i b : Nat} {v : Value} (h : b ≠ g) : (W.setCell ⟨g, i, none⟩ v).heap[b]? = W.heap[b]? := heap_setCell_other _ ⟨g, i, none⟩ b _ h
theorem QueS.ne {W : World} {q : Nat} {p : Option Addr} {R : List Int} {f k : Nat} {xs : List Int} (h : QueS W q p R f k xs) {g : Nat} (hg : blk p = some g) : q ≠ g := by
  rintro rfl
  have := h.box.symm.trans (h.at hg).2
  simp [rowO] at this
theorem grow_end {q : Nat} {p : Option Addr} {R : List Int} {f k m g : Nat} {xs : List Int} {w w8 : World} (h : QueS w q p R f k xs) (hb : Below w.heap.size w w8) (hg : w.heap.size ≤ g) (hrow : w8.heap[g]? = some (rowO (str xs m xs.length))) (hm : xs.length < m) (hmk : m ≤ k) :
    QueS ((w8.setCell ⟨q, 0, none⟩ (.slice (some ⟨g, 0, none⟩) m m)).setCell ⟨q, 1, none⟩ (.int .i64 0)) q (some ⟨g, 0, none⟩) (str xs m xs.length) 0 k xs ∧ Touch q none w ((w8.setCell ⟨q, 0, none⟩ (.slice (some ⟨g, 0, none⟩) m m)).setCell ⟨q, 1, none⟩ (.int .i64 0)) := by
  have hl := str_len (Nat.le_of_lt hm) (Nat.le_refl xs.length)
  have hlt := h.lt
  have s1 := heap_setCell_same w8 q 0 _ _ (.slice (some ⟨g, 0, none⟩) m m) (h.below hb).box
  have s2 := heap_setCell_same _ q 1 _ _ (.int .i64 0) s1
  refine ⟨⟨?_, .inr ⟨g, rfl, ?_⟩, str_ring (Nat.le_of_lt hm), h.room.1, h.room.2.1, by omega⟩, ⟨hb.os, hb.tape, hb.output, by simpa using hb.size, fun b hbl hne _ => ?_⟩⟩
  · rw [hl]
    exact s2
  · rw [st_heap (by omega), st_heap (by omega)]
    exact hrow
  · rw [st_heap hne, st_heap hne]
    exact hb.block b hbl
theorem push_end {q g f k m : Nat} {p : Option Addr} {R : List Int} {xs : List Int} {w w8 : World} (x : Int) (h : QueS w q p R f k xs) (hp : blk p = some g) (hb : Below w.heap.size w w8) (hlt : xs.length < R.length) (hm : (f + xs.length) % R.length = m) :
    QueS ((w8.setCell ⟨g, m, none⟩ (.int .i64 x)).setCell ⟨q, 2, none⟩ (.int .i64 (xs.length + 1 : Nat))) q p (R.set m x) f k (xs ++ [x]) ∧ Touch q (blk p) w ((w8.setCell ⟨g, m, none⟩ (.int .i64 x)).setCell ⟨q, 2, none⟩ (.int .i64 (xs.length + 1 : Nat))) := by
  have hne := h.ne hp
  have h8 := h.below hb
  have s2 := heap_setCell_same (w8.setCell ⟨g, m, none⟩ (.int .i64 x)) q 2 _ _ (.int .i64 (xs.length + 1 : Nat)) ((st_heap hne).trans h8.box)
  subst hm
  refine ⟨⟨?_, .inr ⟨g, (h.at hp).1, ?_⟩, h.ring.push hlt x, h.room.1, h.room.2.1, by rw [List.length_set]; exact h.room.2.2⟩, ⟨hb.os, hb.tape, hb.output, by simpa using hb.size, fun b hbl hne1 hne2 => ?_⟩⟩
  · rw [List.length_set, List.length_append, List.length_singleton]
    exact s2
  · rw [st_heap (Ne.symm hne)]
    exact rowO_set (h8.at hp).2 _ _
  · rw [st_heap hne1, st_heap (fun e => hne2 (by rw [e, hp]))]
    exact hb.block b hbl
theorem pop_end {q g f k m n : Nat} {p : Option Addr} {R : List Int} {x : Int} {xs : List Int} {w w1 w8 : World} (h : QueS w q p R f k (x :: xs)) (hp : blk p = some g) (hb1 : Below w.heap.size w w1) (hb : Below w1.heap.size (w1.setCell ⟨g, f, none⟩ (.int .i64 0)) w8) (hm : (f + 1) % R.length = m) (hn : xs.length = n) :
    QueS ((w8.setCell ⟨q, 1, none⟩ (.int .i64 m)).setCell ⟨q, 2, none⟩ (.int .i64 n)) q p (R.set f 0) m k xs ∧ Touch q (blk p) w ((w8.setCell ⟨q, 1, none⟩ (.int .i64 m)).setCell ⟨q, 2, none⟩ (.int .i64 n)) := by
  have hne := h.ne hp
  have h1 := h.below hb1
  have hl1 := h1.lt
  have hg1 := (Array.getElem?_eq_some_iff.1 (h1.at hp).2).1
  subst hm hn
  have b8 := (hb.block q hl1).trans ((st_heap hne).trans h1.box)
  have s1 := heap_setCell_same w8 q 1 _ _ (.int .i64 ((f + 1) % R.length : Nat)) b8
  have s2 := heap_setCell_same _ q 2 _ _ (.int .i64 (xs.length : Nat)) s1
  refine ⟨⟨?_, .inr ⟨g, (h.at hp).1, ?_⟩, h.ring.pop, h.room.1, h.room.2.1, by rw [List.length_set]; exact h.room.2.2⟩, ⟨hb.os.trans hb1.os, hb.tape.trans hb1.tape, hb.output.trans hb1.output, (by have h1 := hb1.size; have h2 := hb.size; rw [show (w1.setCell ⟨g, f, none⟩ (.int .i64 0)).heap.size = w1.heap.size from by simp] at h2; simp; omega), fun b hbl hne1 hne2 => ?_⟩⟩
  · rw [List.length_set]
    exact s2
  · rw [st_heap (Ne.symm hne), st_heap (Ne.symm hne), hb.block g hg1]
    exact rowO_set (h1.at hp).2 _ _
  · rw [st_heap hne1, st_heap hne1, hb.block b (by have := hb1.size; omega), st_heap (fun e => hne2 (by rw [e, hp]))]
    exact hb1.block b hbl

set_option maxHeartbeats 4000000 in
set_option maxRecDepth 100000 in
theorem grow_c {q : Nat} {p : Option Addr} {R : List Int} {f k : Nat} {xs : List Int} {w : World} (h : QueS w q p R f k xs) (hlt : xs.length < k) :
    Calls Try.prog 20 #[.pointer (some ⟨q, 0, none⟩)] w fun e w' => e = .returned (.tuple #[]) ∧ ∃ g R', w.heap.size ≤ g ∧ QueS w' q (some ⟨g, 0, none⟩) R' 0 k xs ∧ xs.length < R'.length ∧ Touch q none w w' := by
  have mixed : Try.prog.follows .mixedOrders = true := by kernel_rfl
  have hlen := h.len
  have hr := h.room
  obtain ⟨c0, c1, c2, c3⟩ := cell_four h.box
  obtain ⟨m, hm⟩ : ∃ m, m = min k (2 * xs.length + 4) := ⟨_, rfl⟩
  have hm1 : xs.length < m := by omega
  have KS := Lib.hid (straight_at m h (by omega) (by omega))
  have r1 : IntKind.i64.wrap (2 * (xs.length : Int)) = 2 * (xs.length : Int) := by rw [IntKind.wrap_i64]; omega
  have r2 : IntKind.i64.wrap (2 * (xs.length : Int) + 4) = 2 * (xs.length : Int) + 4 := by rw [IntKind.wrap_i64]; omega
  have HH := Lib.hid (And.intro h (And.intro hm1 (show m ≤ k by omega)))
  have f0 := frozen_of_row _ q 0 _ _ h.box
  have f1 := frozen_of_row _ q 1 _ _ h.box
  obtain ⟨n, hn⟩ : ∃ n, xs.length = n := ⟨_, rfl⟩
  rw [hn] at c2 r1 r2 hm
  have hmi : min (k : Int) (2 * (n : Int) + 4) = (m : Int) := by omega
  have HN := Lib.hid hn
  clear h hlen hr hlt hn hm hm1
  go_enter Try.func20, Try.ntmps20
  go_wp2_with fail
  go_region_law (first
      | (go_simp; go_at_call 22; (try rw [hmi]); refine (KS.out _ (by first | exact Below.refl _ _ | exact Below.drew (Below.refl _ _))).mono ?_; rintro e w8 ⟨g, hg, rfl, hrow, hb⟩; have HP := Lib.hid (And.intro hg (And.intro hrow (show Below w.heap.size w w8 from bT' (Below.drew (Below.refl _ _)) hb (Nat.le_refl _)))); have d0 := kc' HP.out.2.2 c0; have d1 := kc' HP.out.2.2 c1; have e0 := frz HP.out.2.2 c0 f0; have e1 := frz HP.out.2.2 c1 f1; clear hg hrow hb))
  all_goals go_wp2
  all_goals go_end0
  all_goals
    obtain ⟨hg, hrow, hb⟩ := HP.out
    obtain ⟨h, hm1, hm2⟩ := HH.out
    obtain ⟨e1, e2⟩ := grow_end h hb hg hrow hm1 hm2
    exact ⟨rfl, g, _, hg, e1, by rw [str_len (Nat.le_of_lt hm1) (Nat.le_refl _)]; exact hm1, e2⟩

end Go.Proofs.Ytgolbeoaomgmcaa
