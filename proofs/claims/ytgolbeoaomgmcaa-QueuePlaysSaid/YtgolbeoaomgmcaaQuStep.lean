/-
  gavottelaw05's alike and step over this seat's translation. Conditions: those that each theorem states.
-/
import Derived.Test.YtgolbeoaomgmcaaQuItems
import Derived.Test.YtgolbeoaomgmcaaQuFrame
namespace Go.Proofs.Ytgolbeoaomgmcaa
open Go.RowKit Go.Shelf Go.Lib Go.Sort Qu

/-- Numbers in a row. -/
abbrev IntsR (W : World) (v : Value) (m : List Int) : Prop := W.ownsRow 0 3 1 v m.length (m.map fun x => Value.int .i64 x)
theorem IntsR.below {W W' : World} {v : Value} {m : List Int} (h : IntsR W v m) (hb : Below W.heap.size W W') : IntsR W' v m := ownsRow_keep h fun g e => hb.block g (h.lt g e).2
theorem IntsR.at {W : World} {v : Value} {m : List Int} (h : IntsR W v m) : ∃ p cap, v = .slice p m.length cap ∧ ∀ i (hi : i < m.length), ∃ g, p = some ⟨g, 0, none⟩ ∧ W.cell? ⟨g, i, none⟩ = some (.int .i64 m[i]) := by
  rcases id h.2 with ⟨rfl, e⟩ | ⟨g, cap, cur, rfl, _⟩
  · exact ⟨none, 0, by rw [e], fun i hi => by omega⟩
  · refine ⟨_, cap, rfl, fun i hi => ⟨g, rfl, ?_⟩⟩
    have := h.cellAt i (by rw [Nat.mul_one]; exact hi)
    rw [this, List.getElem?_map, List.getElem?_eq_getElem hi]
    rfl

set_option maxHeartbeats 4000000 in
set_option maxRecDepth 100000 in
theorem alike_c (v1 v2 : Value) (m : List Int) (w : World) (h1 : IntsR w v1 m) (h2 : IntsR w v2 m) (hm : m.length ≤ 1000) :
    Calls Try.prog 19 #[v1, v2] w fun e w' => e = .returned (.bool true) ∧ Below w.heap.size w w' := by
  have mixed : Try.prog.follows .mixedOrders = true := by kernel_rfl
  obtain ⟨p1, c1, rfl, a1⟩ := h1.at
  obtain ⟨p2, c2, rfl, a2⟩ := h2.at
  obtain ⟨n, hn⟩ : ∃ n, m.length = n := ⟨_, rfl⟩
  have HA := Lib.hid (And.intro a1 (And.intro a2 hn))
  rw [hn] at hm ⊢
  have hnn : ((n : Int) != (n : Int)) = false := by simp
  have hnn2 : ((n : Int) == (n : Int)) = true := by simp
  clear h1 h2 a1 a2 hn
  go_enter Try.func19, Try.ntmps19
  go_wp2
  go_loopw [5] (fun v wr => ∃ i : Nat, v = .int .i64 i ∧ i ≤ n ∧ Hid (Below w.heap.size w wr)) (fun v _ => n - (intOf v).toNat)
  case atStart => exact ⟨0, rfl, Nat.zero_le _, Below.refl _ _⟩
  case round =>
    obtain ⟨i, rfl, hi, HB⟩ := hrel
    by_cases hlt : i < n
    · have hiz : (i : Int) < (n : Int) := by omega
      obtain ⟨b1, b2, hn⟩ := HA.out
      obtain ⟨g1, rfl, e1⟩ := b1 i (by omega)
      obtain ⟨g2, rfl, e2⟩ := b2 i (by omega)
      obtain ⟨x, hx⟩ : ∃ x, m[i] = x := ⟨_, rfl⟩
      rw [hx] at e1 e2
      replace e1 := kc' HB.out e1
      replace e2 := kc' HB.out e2
      have hxx : (x != x) = false := by simp
      have hxx2 : (x == x) = true := by simp
      have hri : IntKind.i64.wrap ((i : Int) + 1) = ((i + 1 : Nat) : Int) := by rw [IntKind.wrap_i64]; omega
      clear b1 b2 hn hx
      go_wp2_with fail
      go_quiet (fail)
      have HB2 := Lib.hid (bT' HB.out (G.drew wr nq).below HB.out.size)
      go_wp2
      exact ⟨⟨i + 1, rfl, by omega, HB2⟩, by simp [intOf]; omega⟩
    · obtain rfl : i = n := by omega
      go_wp2
      go_ret
      exact ⟨rfl, HB.out⟩

set_option maxHeartbeats 4000000 in
theorem step_o {B q k : Nat} {p : Option Addr} {xs : List Int} {w : World} (x : Ac) (h : Own B w q p k xs) (hB : B ≤ w.heap.size) (hx : 0 ≤ x.1 ∧ x.1 ≤ 255 ∧ W64 x.2) :
    Calls Try.prog 17 #[.pointer (some ⟨q, 0, none⟩), .agg #[.int .u8 x.1, .int .i64 x.2]] w fun e w' => e = .returned (.tuple #[]) ∧ ∃ p' xs', Own B w' q p' k xs' ∧ Touch q (blk p) w w' ∧ New p p' w ∧ Below B w w' := by
  obtain ⟨d, a⟩ := x
  obtain ⟨d1, d2, _⟩ := hx
  dsimp only at d1 d2 ⊢
  have hbX : Below w.heap.size w (w.alloc (.cells #[.int .u8 d, .int .i64 a] 29)) := bA' (Below.refl _ _) (Nat.le_refl _) _
  obtain ⟨x0, x1, _⟩ := cell_two (World.alloc_heap_new w (.cells #[.int .u8 d, .int .i64 a] 29))
  have h2 := h.below hbX
  have hB2 : B ≤ (w.alloc (.cells #[.int .u8 d, .int .i64 a] 29)).heap.size := by rw [World.size_alloc]; omega
  have KS := push_o a h2 hB2
  have KP := pop_o h2 hB2
  have hbB : Below B w (w.alloc (.cells #[.int .u8 d, .int .i64 a] 29)) := bA' (Below.refl _ _) hB _
  have HH := Lib.hid (And.intro hbX hbB)
  have hr0 : Int.tmod d 5 = d % 5 := Int.tmod_eq_emod_of_nonneg d1
  obtain ⟨r, hr⟩ : ∃ r, d % 5 = r := ⟨_, rfl⟩
  have hr1 : Int.tmod d 5 = r := by rw [hr0, hr]
  have hw8 : IntKind.u8.wrap r = r := by
    have : r = 0 ∨ r = 1 ∨ r = 2 ∨ r = 3 ∨ r = 4 := by omega
    rcases this with rfl | rfl | rfl | rfl | rfl <;> decide
  clear h h2 hB2 hbX hr0 hB d1 d2 hbB hr
  by_cases hlt : r < 2
  · have hd : decide (r < 2) = true := decide_eq_true hlt
    go_enter Try.func17, Try.ntmps17
    go_wp2_with fail
    refine KS.mono ?_
    rintro e w2 ⟨rfl, p', q1, q2, q3, q4⟩
    have HQ := Lib.hid (And.intro q1 (And.intro q2 (And.intro q3 q4)))
    clear q1 q2 q3 q4 KS KP
    go_wp2
    go_end0
    obtain ⟨q1, q2, q3, q4⟩ := HQ.out
    exact ⟨rfl, p', _, q1, (Touch.below HH.out.1).trans q2 (.inl rfl), q3.imp id fun h g e => by have := h g e; rw [World.size_alloc] at this; omega, HH.out.2.trans q4⟩
  · have hd : decide (r < 2) = false := decide_eq_false hlt
    go_enter Try.func17, Try.ntmps17
    go_wp2_with fail
    refine KP.mono ?_
    rintro e w2 ⟨rfl, q1, q2, q4⟩
    have HQ := Lib.hid (And.intro q1 (And.intro q2 q4))
    clear q1 q2 q4 KS KP
    go_wp2
    go_end0
    obtain ⟨q1, q2, q4⟩ := HQ.out
    exact ⟨rfl, p, _, q1, (Touch.below HH.out.1).trans q2 (.inl rfl), .inl rfl, HH.out.2.trans q4⟩
end Go.Proofs.Ytgolbeoaomgmcaa
