/-
  A queue in memory; queue's New, place, Len, Peek over this seat's translation. Conditions: those that each theorem states.
-/
import Derived.Test.YtgolbeoaomgmcaaQuM
import Derived.Test.YtgolbeoaomgmcaaQuA
namespace Go.Proofs.Ytgolbeoaomgmcaa
open Go.RowKit Go.Shelf Go.Lib Go.Sort Qu

/-- Nothing is turned; blocks are laid, and orders drawn. -/
def G (w wr : World) : Prop := ∃ q os, wr = grow (w.drewN q) os
theorem G.refl (w : World) : G w w := ⟨0, #[], by rw [World.drewN_zero, grow_empty]⟩
theorem G.trans {a b c : World} (h : G a b) (k : G b c) : G a c := by
  obtain ⟨q, os, rfl⟩ := h
  obtain ⟨q2, os2, rfl⟩ := k
  exact ⟨q + q2, os ++ os2, by show grow (grow ((a.drewN q).drewN q2) os) os2 = _; rw [grow_grow, World.drewN_drewN]⟩
theorem G.cell {a b : World} (h : G a b) {p : Addr} {v : Value} (hc : a.cell? p = some v) : b.cell? p = some v := by
  obtain ⟨q, os, rfl⟩ := h
  exact _root_.Go.Proofs.Ytgolbeoaomgmcaa.cg hc q os
theorem G.below {a b : World} (h : G a b) : Below a.heap.size a b := by
  obtain ⟨q, os, rfl⟩ := h
  exact below_grown_sl _ _ _ _ (Nat.le_refl _)
theorem G.drew (w : World) (n : Nat) : G w (w.drewN n) := ⟨n, #[], by rw [grow_empty]⟩

theorem cell_four {W : World} {b : Nat} {u v x y : Value} {t : TypeId} (h : W.heap[b]? = some (.cells #[u, v, x, y] t (0, 0))) : W.cell? ⟨b, 0, none⟩ = some u ∧ W.cell? ⟨b, 1, none⟩ = some v ∧ W.cell? ⟨b, 2, none⟩ = some x ∧ W.cell? ⟨b, 3, none⟩ = some y := by
  refine ⟨?_, ?_, ?_, ?_⟩ <;> (unfold World.cell?; rw [h]; rfl)

/-- A row of numbers. -/
def rowO (R : List Int) : Obj := .cells (R.map fun x => Value.int .i64 x).toArray 3 (0, 0)
theorem rowO_cell {W : World} {g : Nat} {R : List Int} (h : W.heap[g]? = some (rowO R)) (i : Nat) : W.cell? ⟨g, i, none⟩ = R[i]?.map fun x => Value.int .i64 x := by
  rw [cell_of_row _ _ _ _ _ _ h]
  simp
theorem rowO_set {W : World} {g : Nat} {R : List Int} (h : W.heap[g]? = some (rowO R)) (i : Nat) (x : Int) : (W.setCell ⟨g, i, none⟩ (.int .i64 x)).heap[g]? = some (rowO (R.set i x)) := by
  rw [heap_setCell_same _ _ _ _ _ _ h]
  simp [rowO, List.map_set]

/-- The block of a slice. -/
def blk (p : Option Addr) : Option Nat := p.map (·.block)
/-- A queue in block q. -/
structure QueS (W : World) (q : Nat) (p : Option Addr) (R : List Int) (f k : Nat) (xs : List Int) : Prop where
  box : W.heap[q]? = some (.cells #[.slice p R.length R.length, .int .i64 f, .int .i64 xs.length, .int .i64 k] 51 (0, 0))
  row : (p = none ∧ R.length = 0) ∨ ∃ g, p = some ⟨g, 0, none⟩ ∧ W.heap[g]? = some (rowO R)
  ring : Ring R f xs
  room : 1 ≤ k ∧ k ≤ 1048576 ∧ R.length ≤ k
theorem QueS.same {W W' : World} {q : Nat} {p : Option Addr} {R : List Int} {f k : Nat} {xs : List Int} (h : QueS W q p R f k xs) (h1 : W'.heap[q]? = W.heap[q]?) (h2 : ∀ g, blk p = some g → W'.heap[g]? = W.heap[g]?) : QueS W' q p R f k xs :=
  ⟨h1.trans h.box, h.row.imp id fun ⟨g, e, hg⟩ => ⟨g, e, (h2 g (by rw [e]; rfl)).trans hg⟩, h.ring, h.room⟩
theorem QueS.at {W : World} {q : Nat} {p : Option Addr} {R : List Int} {f k : Nat} {xs : List Int} (h : QueS W q p R f k xs) {g : Nat} (hg : blk p = some g) : p = some ⟨g, 0, none⟩ ∧ W.heap[g]? = some (rowO R) := by
  rcases h.row with ⟨rfl, _⟩ | ⟨g', rfl, h'⟩
  · cases hg
  · simp [blk] at hg
    subst hg
    exact ⟨rfl, h'⟩
theorem QueS.below {W W' : World} {q : Nat} {p : Option Addr} {R : List Int} {f k : Nat} {xs : List Int} (h : QueS W q p R f k xs) (hb : Below W.heap.size W W') : QueS W' q p R f k xs :=
  h.same (hb.block _ (Array.getElem?_eq_some_iff.1 h.box).1) fun _ hg => hb.block _ (Array.getElem?_eq_some_iff.1 (h.at hg).2).1
theorem QueS.lt {W : World} {q : Nat} {p : Option Addr} {R : List Int} {f k : Nat} {xs : List Int} (h : QueS W q p R f k xs) : q < W.heap.size := (Array.getElem?_eq_some_iff.1 h.box).1
theorem QueS.len {W : World} {q : Nat} {p : Option Addr} {R : List Int} {f k : Nat} {xs : List Int} (h : QueS W q p R f k xs) : xs.length ≤ k ∧ xs.length ≤ 1048576 ∧ f ≤ 1048576 := by
  have h1 := h.ring.fit
  have h2 := h.room
  refine ⟨by omega, by omega, ?_⟩
  by_cases h0 : 0 < R.length
  · have := h.ring.first h0; omega
  · have := h.ring.zero (by omega); omega

set_option maxHeartbeats 1000000 in
theorem new_c (k : Int) (hk : 1 ≤ k ∧ k ≤ 1048576) (w : World) : Calls Try.prog 8 #[.int .i64 k] w fun e w' =>
    e = .returned (.tuple #[.pointer (some ⟨w.heap.size, 0, none⟩), .int .i64 0]) ∧ QueS w' w.heap.size none [] 0 k.toNat [] ∧ Below w.heap.size w w' := by
  have hd1 : decide (k < 1) = false := decide_eq_false (by omega)
  have hd2 : decide (k > 1048576) = false := decide_eq_false (by omega)
  have hB : Below w.heap.size w (w.alloc (.cells #[.slice none 0 0, .int .i64 0, .int .i64 0, .int .i64 k] 51)) := bA' (Below.refl _ _) (Nat.le_refl _) _
  have hS : QueS (w.alloc (.cells #[.slice none 0 0, .int .i64 0, .int .i64 0, .int .i64 k] 51)) w.heap.size none [] 0 k.toNat [] := by
    refine ⟨?_, .inl ⟨rfl, rfl⟩, ⟨Nat.le_refl _, fun h => absurd h (Nat.lt_irrefl _), fun _ => rfl, fun i hi => absurd hi (Nat.not_lt_zero _)⟩, by omega, by omega, by simp⟩
    rw [show ((k.toNat : Nat) : Int) = k from by omega]
    exact World.alloc_heap_new w _
  have HB := Lib.hid (And.intro hS hB)
  clear hB hS hk
  go_enter Try.func8, Try.ntmps8
  go_wp2
  refine bodyPost_ret (results_tmp2 rfl _ _ _) rfl ?_
  exact ⟨rfl, HB.out⟩

set_option maxHeartbeats 1000000 in
theorem newNo_c (k : Int) (hk : k < 1 ∨ k > 1048576) (w : World) : Calls Try.prog 8 #[.int .i64 k] w fun e w' =>
    e = .returned (.tuple #[.pointer none, .int .i64 1]) ∧ w = w' := by
  by_cases h1 : k < 1
  · have hd1 : decide (k < 1) = true := decide_eq_true h1
    go_enter Try.func8, Try.ntmps8
    go_wp2
    refine bodyPost_ret (results_tmp2 rfl _ _ _) rfl ?_
    exact ⟨rfl, rfl⟩
  · have hd1 : decide (k < 1) = false := decide_eq_false h1
    have hd2 : decide (k > 1048576) = true := decide_eq_true (by omega)
    go_enter Try.func8, Try.ntmps8
    go_wp2
    refine bodyPost_ret (results_tmp2 rfl _ _ _) rfl ?_
    exact ⟨rfl, rfl⟩

set_option maxHeartbeats 1000000 in
theorem len_c (q : Nat) (n : Int) (w : World) (h : w.cell? ⟨q, 2, none⟩ = some (.int .i64 n)) : Calls Try.prog 10 #[.pointer (some ⟨q, 0, none⟩)] w fun e w' => e = .returned (.int .i64 n) ∧ w = w' := by
  go_enter Try.func10, Try.ntmps10
  go_wp2
  go_ret
  exact ⟨rfl, rfl⟩
set_option maxHeartbeats 1000000 in
theorem lenNil_c (w : World) : Calls Try.prog 10 #[.pointer none] w fun e w' => e = .returned (.int .i64 0) ∧ w = w' := by
  go_enter Try.func10, Try.ntmps10
  go_wp2
  go_ret
  exact ⟨rfl, rfl⟩

set_option maxHeartbeats 2000000 in
set_option maxRecDepth 100000 in
theorem place_g (q : Nat) (p : Option Addr) (L f i : Nat) (w : World) (h0 : w.cell? ⟨q, 0, none⟩ = some (.slice p L L)) (h1 : w.cell? ⟨q, 1, none⟩ = some (.int .i64 f)) (hL : 0 < L) (hL2 : L ≤ 1048576) (hf : f ≤ 1048576) (hi : i ≤ 1048576) :
    Calls Try.prog 21 #[.pointer (some ⟨q, 0, none⟩), .int .i64 i] w fun e w' => e = .returned (.int .i64 ((f + i) % L : Nat)) ∧ ∃ qq os', w' = grow (w.drewN qq) os' := by
  have mixed : Try.prog.follows .mixedOrders = true := by kernel_rfl
  have r1 : IntKind.i64.wrap ((f : Int) + (i : Int)) = ((f + i : Nat) : Int) := by rw [IntKind.wrap_i64]; omega
  have hlt : (f + i) % L < L := Nat.mod_lt _ hL
  have r2 : Int.tmod ((f + i : Nat) : Int) (L : Int) = (((f + i) % L : Nat) : Int) := by rw [Int.tmod_eq_emod_of_nonneg (by omega)]; omega
  have r3 : IntKind.i64.wrap (((f + i) % L : Nat) : Int) = (((f + i) % L : Nat) : Int) := by rw [IntKind.wrap_i64]; omega
  have hz : ((L : Int) == 0) = false := by rw [beq_eq_false_iff_ne]; omega
  have hz2 : ¬ (L : Int) = 0 := by omega
  obtain ⟨s, hs⟩ : ∃ s, f + i = s := ⟨_, rfl⟩
  rw [hs] at r1 r2 r3 hlt ⊢
  obtain ⟨r, hr⟩ : ∃ r, s % L = r := ⟨_, rfl⟩
  rw [hr] at r2 r3 hlt ⊢
  clear hs hr hL hlt
  go_enter Try.func21, Try.ntmps21
  go_wp2_with fail
  go_quiet (fail)
  go_wp2
  go_ret
  exact ⟨rfl, nq, #[], by rw [grow_empty]⟩
end Go.Proofs.Ytgolbeoaomgmcaa
