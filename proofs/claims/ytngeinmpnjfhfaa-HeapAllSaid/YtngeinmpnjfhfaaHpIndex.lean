/-
  slices.Contains of a number that isn't there, and what the laws over heaps keep beside a heap, over this seat's translation. Conditions: those that each theorem states.
-/
import Derived.Test.YtngeinmpnjfhfaaHpDone
import Derived.Maps.AppendAt
import Derived.OwnWalk
namespace Go.Proofs.Ytngeinmpnjfhfaa
open Go.RowKit Go.Shelf Go.Lib Go.Sort Hp Go.Maps

/-- Numbers in a row of one's own. -/
abbrev Nums (W : World) (B : Nat) (v : Value) (ms : List Int) : Prop := W.ownsRow B 3 1 v ms.length (ms.map (Value.int .i64))
theorem Nums.at {W : World} {B : Nat} {v : Value} {ms : List Int} (h : Nums W B v ms) : ∃ p cap, v = .slice p ms.length cap ∧ ∀ i (hi : i < ms.length), ∃ g, p = some ⟨g, 0, none⟩ ∧ W.cell? ⟨g, i, none⟩ = some (.int .i64 ms[i]) := by
  rcases id h.2 with ⟨rfl, e⟩ | ⟨g, cap, cur, rfl, _⟩
  · exact ⟨none, 0, by rw [e], fun i hi => by omega⟩
  · refine ⟨_, cap, rfl, fun i hi => ⟨g, rfl, ?_⟩⟩
    rw [h.cellAt i (by omega), List.getElem?_map, List.getElem?_eq_getElem hi]
    rfl
theorem Nums.keep {W W' : World} {B : Nat} {v : Value} {ms : List Int} (h : Nums W B v ms) (hk : ∀ g, v.ownBlock = some g → W'.heap[g]? = W.heap[g]?) : Nums W' B v ms := by
  refine ⟨h.1, ?_⟩
  rcases h.2 with h3 | ⟨g, cap, cur, e, hB, hg, rest⟩
  · exact .inl h3
  · exact .inr ⟨g, cap, cur, e, hB, (hk g (by rw [e]; rfl)).trans hg, rest⟩
theorem Nums.below {W W' : World} {B : Nat} {v : Value} {ms : List Int} (h : Nums W B v ms) (hb : Below W.heap.size W W') : Nums W' B v ms := h.keep fun g e => hb.block g (h.lt g e).2
theorem Nums.cells {W : World} {B : Nat} {p : Option Addr} {cap : Nat} {ms : List Int} (h : Nums W B (.slice p ms.length cap) ms) : ∀ i (hi : i < ms.length), ∃ g, p = some ⟨g, 0, none⟩ ∧ W.cell? ⟨g, i, none⟩ = some (.int .i64 ms[i]) := by
  obtain ⟨p', cap', e, hc⟩ := h.at
  simp at e
  obtain ⟨rfl, _⟩ := e
  exact hc
theorem keep2 {V w8 : World} {o ob : Obj} {row : Option Nat} {b : Nat} (hg : (V.alloc o).grownBy w8 row) (hb : V.heap[b]? = some ob) (hn : some b ≠ row) : w8.heap[b]? = some ob := by
  have hlt := (Array.getElem?_eq_some_iff.1 hb).1
  exact (hg.block b (by rw [World.size_alloc]; omega) hn).trans ((Below.heap_alloc _ _ _ hlt).trans hb)
/-- A block of another type is none of the heap's. -/
theorem Own.other {B : Nat} {W : World} {hb : Nat} {sv : Value} {mb : Nat} {es : List It} (h : Own B W hb sv mb es) {g : Nat} {cur : Array Value} {t : TypeId} {fr : Nat × Nat} (hg : W.heap[g]? = some (.cells cur t fr)) (h1 : t ≠ 63) (h2 : t ≠ 33) : g ≠ hb ∧ g ≠ mb ∧ some g ≠ sv.ownBlock := by
  refine ⟨?_, ?_, fun e => ?_⟩
  · rintro rfl
    rw [h.heap.box] at hg
    simp at hg
    exact h1 hg.2.1.symm
  · rintro rfl
    obtain ⟨D, m, ⟨ent, clock, k1, _⟩, _⟩ := h.heap.tab
    rw [k1] at hg
    simp at hg
  · rcases h.heap.row.2 with ⟨e2, _⟩ | ⟨g', cap, cur', e2, _, hg', _⟩
    · rw [e2] at e; cases e
    · rw [e2] at e
      obtain rfl : g = g' := by simpa [Value.ownBlock] using e
      rw [hg'] at hg
      simp at hg
      exact h2 hg.2.1.symm
theorem Nums.left {W W' : World} {B B' hb mb : Nat} {sv v : Value} {es : List It} {ms : List Int} (h : Nums W B v ms) (ho : Own B' W hb sv mb es) (hl : Left B' hb mb sv W W') : Nums W' B v ms := by
  refine h.keep fun g e => ?_
  rcases h.2 with ⟨e2, _⟩ | ⟨g', cap, cur, e2, _, hg, _⟩
  · rw [e2] at e; cases e
  · rw [e2] at e
    obtain rfl : g' = g := by simpa [Value.ownBlock] using e
    obtain ⟨h1, h2, h3⟩ := ho.other hg (by decide) (by decide)
    exact hl.touch.block g' (Array.getElem?_eq_some_iff.1 hg).1 h1 h2 h3

set_option maxHeartbeats 2000000 in
theorem index_out (p : Option Addr) (cap : Nat) (ms : List Int) (x : Int) (w : World) (h : ∀ i (hi : i < ms.length), ∃ g, p = some ⟨g, 0, none⟩ ∧ w.cell? ⟨g, i, none⟩ = some (.int .i64 ms[i])) (hx : x ∉ ms) (hlen : ms.length ≤ 1000000) :
    Calls Try.prog 31 #[.slice p ms.length cap, .int .i64 x] w fun e w' => e = .returned (.int .i64 (-1)) ∧ w = w' := by
  have HH := Lib.hid (And.intro h hx)
  clear h hx
  obtain ⟨n, hn⟩ : ∃ n, ms.length = n := ⟨_, rfl⟩
  rw [hn] at hlen ⊢
  have HN := Lib.hid hn
  clear hn
  go_enter Try.func31, Try.ntmps31
  go_wp2
  go_loopw [8] (fun v wr => ∃ k : Nat, v = .int .i64 k ∧ k ≤ n ∧ w = wr) (fun v _ => n - (intOf v).toNat)
  case atStart => exact ⟨0, rfl, Nat.zero_le _, rfl⟩
  case round =>
    obtain ⟨k, rfl, hk, rfl⟩ := hrel
    by_cases hlt : k < n
    · have hd1 : decide ((k : Int) < (n : Int)) = true := decide_eq_true (by omega)
      have hd2 : decide (k < n) = true := decide_eq_true hlt
      have hz : (k : Int) < (n : Int) := by omega
      have hkl : k < ms.length := by have := HN.out; omega
      obtain ⟨g, hp, c0⟩ := HH.out.1 k hkl
      subst hp
      obtain ⟨y, hy⟩ : ∃ y, ms[k] = y := ⟨_, rfl⟩
      rw [hy] at c0
      have hne : (x == y) = false := by
        rw [beq_eq_false_iff_ne]
        rintro rfl
        exact HH.out.2 (by rw [← hy]; exact List.getElem_mem hkl)
      have hne2 : ¬ x = y := by simpa using hne
      have r : IntKind.i64.wrap ((k : Int) + 1) = ((k + 1 : Nat) : Int) := by rw [IntKind.wrap_i64]; omega
      clear hy hkl
      go_wp2
      exact ⟨⟨k + 1, by go_num, by omega, by trivial⟩, by simp [intOf]; omega⟩
    · have hd1 : decide ((k : Int) < (n : Int)) = false := decide_eq_false (by omega)
      have hd2 : decide (k < n) = false := decide_eq_false hlt
      go_wp2
      go_ret
      exact ⟨rfl, rfl⟩
set_option maxHeartbeats 1000000 in
theorem contains_out (p : Option Addr) (cap : Nat) (ms : List Int) (x : Int) (w : World) (h : ∀ i (hi : i < ms.length), ∃ g, p = some ⟨g, 0, none⟩ ∧ w.cell? ⟨g, i, none⟩ = some (.int .i64 ms[i])) (hx : x ∉ ms) (hlen : ms.length ≤ 1000000) :
    Calls Try.prog 16 #[.slice p ms.length cap, .int .i64 x] w fun e w' => e = .returned (.bool false) ∧ w = w' := by
  have K := index_out p cap ms x w h hx hlen
  clear h hx
  go_enter Try.func16, Try.ntmps16
  go_wp2_with fail
  refine K.mono ?_
  rintro e w2 ⟨rfl, rfl⟩
  go_wp2
  go_ret
  exact ⟨rfl, rfl⟩
end Go.Proofs.Ytngeinmpnjfhfaa
