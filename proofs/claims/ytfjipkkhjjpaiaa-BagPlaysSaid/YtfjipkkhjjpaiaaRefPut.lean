/-
  The given package gavotteref03's Put over this seat's translation. Conditions: those that each theorem states.
-/
import Derived.Test.YtfjipkkhjjpaiaaAwakeB
import Derived.OwnWalk
import Derived.Deep.QuietTactic
import Derived.BigQuiet
namespace Go.Proofs.Ytfjipkkhjjpaiaa
open Go.RowKit Go.Shelf Go.Lib Go.Sort St

/-- With one more, behind those that it is level with. -/
def putL : List It → It → List It
  | [], x => [x]
  | y :: l, x => if x.1 < y.1 then x :: y :: l else y :: putL l x
theorem putL_low : ∀ (l : List It) (x : It), (∀ y ∈ l, ¬ x.1 < y.1) → ∀ r, putL (l ++ r) x = l ++ putL r x
  | [], _, _, _ => rfl
  | y :: l, x, h, r => by
    rw [List.cons_append, putL, if_neg (h y (List.mem_cons_self ..)), putL_low l x (fun z hz => h z (List.mem_cons_of_mem _ hz)) r]
    rfl
theorem putL_high : ∀ (l : List It) (x : It), (∃ y ∈ l, x.1 < y.1) → ∀ r, putL (l ++ r) x = putL l x ++ r
  | [], _, h, _ => by obtain ⟨y, hy, _⟩ := h; cases hy
  | y :: l, x, h, r => by
    rw [List.cons_append, putL, putL]
    by_cases hy : x.1 < y.1
    · rw [if_pos hy, if_pos hy]; rfl
    · rw [if_neg hy, if_neg hy, putL_high l x (by
        obtain ⟨z, hz, hlt⟩ := h
        rcases List.mem_cons.1 hz with rfl | hz
        · exact absurd hlt hy
        · exact ⟨z, hz, hlt⟩) r]
      rfl
theorem putL_len : ∀ (l : List It) (x : It), (putL l x).length = l.length + 1
  | [], _ => rfl
  | y :: l, x => by
    rw [putL]
    split
    · rfl
    · rw [List.length_cons, putL_len l x, List.length_cons]
theorem putL_mem : ∀ (l : List It) (x z : It), z ∈ putL l x → z = x ∨ z ∈ l
  | [], x, z, h => .inl (by simpa [putL] using h)
  | y :: l, x, z, h => by
    rw [putL] at h
    split at h
    · rcases List.mem_cons.1 h with h | h
      · exact .inl h
      · exact .inr h
    · rcases List.mem_cons.1 h with h | h
      · exact .inr (by rw [h]; exact List.mem_cons_self ..)
      · rcases putL_mem l x z h with h | h
        · exact .inl h
        · exact .inr (List.mem_cons_of_mem _ h)
theorem putL_ins : ∀ (l : List It) (x : It), l.Pairwise (fun a b => a.1 ≤ b.1) → (putL l x).Pairwise (fun a b => a.1 ≤ b.1) ∧ ∀ k : Int, (putL l x).filter (fun z => z.1 == k) = l.filter (fun z => z.1 == k) ++ [x].filter (fun z => z.1 == k)
  | [], x, _ => ⟨List.pairwise_singleton _ _, fun k => rfl⟩
  | y :: l, x, h => by
    have h1 := List.pairwise_cons.1 h
    rw [putL]
    by_cases hy : x.1 < y.1
    · rw [if_pos hy]
      refine ⟨List.pairwise_cons.2 ⟨fun z hz => ?_, h⟩, fun k => ?_⟩
      · rcases List.mem_cons.1 hz with rfl | hz
        · omega
        · have := h1.1 z hz; omega
      · by_cases hk : x.1 = k
        · have hn : (y :: l).filter (fun z => z.1 == k) = [] := by
            rw [List.filter_eq_nil_iff]
            intro z hz
            have : y.1 ≤ z.1 := by
              rcases List.mem_cons.1 hz with rfl | hz
              · omega
              · exact h1.1 z hz
            simp
            omega
          have e1 : (x :: y :: l).filter (fun z => z.1 == k) = x :: (y :: l).filter (fun z => z.1 == k) := List.filter_cons_of_pos (by simpa using hk)
          have e2 : [x].filter (fun z => z.1 == k) = [x] := List.filter_cons_of_pos (by simpa using hk)
          rw [e1, e2, hn]
          rfl
        · have e1 : (x :: y :: l).filter (fun z => z.1 == k) = (y :: l).filter (fun z => z.1 == k) := List.filter_cons_of_neg (by simpa using hk)
          have e2 : [x].filter (fun z => z.1 == k) = [] := List.filter_cons_of_neg (by simpa using hk)
          rw [e1, e2, List.append_nil]
    · rw [if_neg hy]
      obtain ⟨i1, i2⟩ := putL_ins l x h1.2
      refine ⟨List.pairwise_cons.2 ⟨fun z hz => ?_, i1⟩, fun k => ?_⟩
      · rcases putL_mem l x z hz with rfl | hz
        · omega
        · exact h1.1 z hz
      · by_cases hk : y.1 = k
        · rw [List.filter_cons_of_pos (by simpa using hk), List.filter_cons_of_pos (by simpa using hk), i2, List.cons_append]
        · rw [List.filter_cons_of_neg (by simpa using hk), List.filter_cons_of_neg (by simpa using hk), i2]
/-- What the program's bag holds is what the given list holds. -/
theorem Ins.putL {xs R : List It} {x : It} (h : Ins (fun z : It => z.1) xs [x] R) (hs : xs.Pairwise (fun a b => a.1 ≤ b.1)) : R = Go.Proofs.Ytfjipkkhjjpaiaa.putL xs x :=
  h.unique ⟨by rw [putL_len]; rfl, (putL_ins xs x hs).1, (putL_ins xs x hs).2⟩
theorem below_dR {B : Nat} {a w : World} (h : Below B a w) (n : Nat) : Below B a (w.drewN n) := ⟨h.os, h.tape, h.output, h.size, h.block⟩
/-- Between two rounds of Put. -/
def PutI (l : List It) (x : It) (k : Nat) (d : Bool) (O : List It) : Prop := (d = false ∧ O = l.take k ∧ ∀ y ∈ l.take k, ¬ x.1 < y.1) ∨ (d = true ∧ O = putL (l.take k) x ∧ ∃ y ∈ l.take k, x.1 < y.1)
theorem take_snoc {l : List It} {k : Nat} (hk : k < l.length) : l.take (k + 1) = l.take k ++ [l[k]] := by rw [List.take_add_one, List.getElem?_eq_getElem hk]; rfl

set_option maxHeartbeats 8000000 in
set_option maxRecDepth 100000 in
theorem rput_c (l : List It) (x : It) (p : Option Addr) (cap : Nat) (W : World) (hn : l.length ≤ 1000) (hx : ∀ i (hi : i < l.length), ∃ g, p = some ⟨g, 0, none⟩ ∧ W.cell? ⟨g, i * 2, none⟩ = some (.int .i64 l[i].1) ∧ W.cell? ⟨g, i * 2 + 1, none⟩ = some (.int .i64 l[i].2)) :
    Calls Try.prog 20 #[.slice p l.length cap, .agg #[.int .i64 x.1, .int .i64 x.2]] W fun e w' => ∃ ov, e = .returned ov ∧ w'.ownsRow W.heap.size 41 2 ov (putL l x).length ((putL l x).flatMap It.cells) ∧ Below W.heap.size W w' := by
  have mixed : Try.prog.follows .mixedOrders = true := by kernel_rfl
  obtain ⟨i0, hi0, hz0, hz1, hz2⟩ := info_parts infoIt
  have hX := Lib.hid hx
  obtain ⟨xa, xb⟩ := x
  have q0 : (W.alloc (.cells #[.int .i64 xa, .int .i64 xb] 41)).cell? ⟨W.heap.size, 0, none⟩ = some (.int .i64 xa) := by go_simp
  have q1 : (W.alloc (.cells #[.int .i64 xa, .int .i64 xb] 41)).cell? ⟨W.heap.size, 1, none⟩ = some (.int .i64 xb) := by go_simp
  have hb1 : Below W.heap.size W (W.alloc (.cells #[.int .i64 xa, .int .i64 xb] 41)) := bA' (Below.refl _ _) (Nat.le_refl _) _
  have hs1 : (W.alloc (.cells #[.int .i64 xa, .int .i64 xb] 41)).heap.size = W.heap.size + 1 := World.size_alloc _ _
  clear hx
  go_enter Try.func20, Try.ntmps20
  go_wp2
  generalize W.alloc (.cells #[.int .i64 xa, .int .i64 xb] 41) = W1 at *
  go_loopw [5, 6, 7] (fun ov dv iv wr => ∃ (k : Nat) (d : Bool) (O : List It), iv = .int .i64 k ∧ dv = .bool d ∧ k ≤ l.length ∧ O.length ≤ 1 + k ∧ Hid (PutI l (xa, xb) k d O) ∧ Hid (Below (W.heap.size + 1) W1 wr) ∧ Hid (wr.ownsRow (W.heap.size + 1) 41 2 ov O.length (O.flatMap It.cells))) (fun _ _ v _ => l.length - (intOf v).toNat)
  case atStart => exact ⟨0, false, [], rfl, rfl, Nat.zero_le _, by simp, .inl ⟨rfl, rfl, fun y hy => by simp at hy⟩, Below.refl _ _, World.ownsRow_nil _ _ _ _⟩
  case round =>
    obtain ⟨k, d, O, rfl, rfl, hk, hOl, HI, HBW, HOWN⟩ := hrel
    by_cases hlt : k < l.length
    · have hkz : (k : Int) < (l.length : Int) := by omega
      obtain ⟨g, rfl, a0, a1⟩ := hX.out k hlt
      have hbW := bT' hb1 (by rw [hs1]; exact HBW.out) hb1.size
      have a0 := kc' hbW a0
      have a1 := kc' hbW a1
      have r0 := kc' (by rw [hs1]; exact HBW.out) q0
      have r1 := kc' (by rw [hs1]; exact HBW.out) q1
      have HT := Lib.hid (take_snoc hlt)
      obtain ⟨y, hy⟩ : ∃ y, l[k] = y := ⟨_, rfl⟩
      rw [hy] at a0 a1
      have HT := Lib.hid (show l.take (k + 1) = l.take k ++ [y] from by rw [HT.out, hy])
      obtain ⟨ya, yb⟩ := y
      dsimp only at a0 a1
      have A0 := Lib.hid (show W.cell? ⟨g, k * 2, none⟩ = some (.int .i64 ya) ∧ W.cell? ⟨g, k * 2 + 1, none⟩ = some (.int .i64 yb) from by obtain ⟨g', e', h1, h2⟩ := hX.out k hlt; cases e'; rw [hy] at h1 h2; exact ⟨h1, h2⟩)
      clear hy hbW
      rcases HI.out with ⟨rfl, rfl, hlow⟩ | ⟨rfl, hO, hhi⟩
      · by_cases hgt : xa < ya
        · have hd1 : decide (ya > xa) = true := decide_eq_true hgt
          have HI2 := Lib.hid (show PutI l (xa, xb) (k + 1) true (l.take k ++ [(xa, xb)] ++ [(ya, yb)]) from .inr ⟨rfl, by
            rw [HT.out, putL_low _ _ hlow, putL, if_pos hgt, List.append_assoc]
            rfl, (ya, yb), by rw [HT.out]; simp, hgt⟩)
          have HOL := Lib.hid hOl
          clear hlow hgt
          go_wp2_with fail
          go_quiet (fail)
          have hbq := below_dR HBW.out nq
          have hoq : (wr.drewN nq).ownsRow (W.heap.size + 1) 41 2 u5 (l.take k).length ((l.take k).flatMap It.cells) := row_below HOWN.out (below_dR (Below.refl _ _) nq)
          have HBQ := Lib.hid hbq
          have HOQ := Lib.hid hoq
          have s0 : (wr.drewN nq).cell? ⟨W.heap.size, 0, none⟩ = some (.int .i64 xa) := r0
          have s1 : (wr.drewN nq).cell? ⟨W.heap.size, 1, none⟩ = some (.int .i64 xb) := r1
          have t0 : (wr.drewN nq).cell? ⟨g, k * 2, none⟩ = some (.int .i64 ya) := a0
          have t1 : (wr.drewN nq).cell? ⟨g, k * 2 + 1, none⟩ = some (.int .i64 yb) := a1
          clear hbq hoq r0 r1 a0 a1
          have HBW := HBQ
          generalize wr.drewN nq = W2 at *
          have hll : (l.take k).length = k := by rw [List.length_take]; omega
          go_wp2_with (first
            | (at_builtin; refine wpList_append_own _ rfl _ _ 43 rfl (W.heap.size + 1) 41 i0 (.agg #[.int .i64 0, .int .i64 0]) 2 16 Try.underlying43 hi0 hz0 hz1 hz2 rfl (by decide) _ _ _ rfl (HOQ.out.alloc _) ⟨W2.heap.size, 0, none⟩ 1 1 [.int .i64 xa, .int .i64 xb] rfl rfl (by
                  have := World.ownsRow_lit (base := 0) (e := 41) (size := 2) W2 #[.int .i64 xa, .int .i64 xb] 1 (by omega) (by unfold maxLen; omega) rfl
                  exact this.cells (g := W2.heap.size) (by simp [Value.ownBlock])) (by
                  intro u hu
                  simp only [List.mem_cons, List.not_mem_nil, or_false] at hu
                  rcases hu with rfl | rfl <;> rfl) (by unfold maxLen; omega) (by omega) (by have := HBW.out.size; simp; omega) ?_; intro v3 w3 hownw3 hgw3 hnilw3; have hbw3 : Below (W.heap.size + 1) W1 w3 := (bA' HBW.out (by have := HBW.out.size; omega) _).grown hgw3 (by have := HBW.out.size; simp; omega) (fun q e => (HOQ.out.lt q e).1); have HBw3 := Lib.hid hbw3; have HOw3 := Lib.hid hownw3; clear hownw3 hgw3 hnilw3 hbw3; have t0 := kc' (bT' hb1 (by rw [hs1]; exact HBw3.out) hb1.size) A0.out.1; have t1 := kc' (bT' hb1 (by rw [hs1]; exact HBw3.out) hb1.size) A0.out.2)
            | (at_builtin; refine wpList_append_own _ rfl _ _ 43 rfl (W.heap.size + 1) 41 i0 (.agg #[.int .i64 0, .int .i64 0]) 2 16 Try.underlying43 hi0 hz0 hz1 hz2 rfl (by decide) _ _ _ rfl (HOw3.out.alloc _) ⟨w3.heap.size, 0, none⟩ 1 1 [.int .i64 ya, .int .i64 yb] rfl rfl (by
                  have := World.ownsRow_lit (base := 0) (e := 41) (size := 2) w3 #[.int .i64 ya, .int .i64 yb] 1 (by omega) (by unfold maxLen; omega) rfl
                  exact this.cells (g := w3.heap.size) (by simp [Value.ownBlock])) (by
                  intro u hu
                  simp only [List.mem_cons, List.not_mem_nil, or_false] at hu
                  rcases hu with rfl | rfl <;> rfl) (by unfold maxLen; omega) (by omega) (by have := HBw3.out.size; simp; omega) ?_; intro v4 w4 hownw4 hgw4 hnilw4; have hbw4 : Below (W.heap.size + 1) W1 w4 := (bA' HBw3.out (by have := HBw3.out.size; omega) _).grown hgw4 (by have := HBw3.out.size; simp; omega) (fun q e => (HOw3.out.lt q e).1); have HBw4 := Lib.hid hbw4; have HOw4 := Lib.hid hownw4; clear hownw4 hgw4 hnilw4 hbw4))
          exact ⟨⟨k + 1, true, l.take k ++ [(xa, xb)] ++ [(ya, yb)], by go_num, rfl, by omega, by simp only [List.length_append, List.length_cons, List.length_nil]; omega, HI2, HBw4, (show w4.ownsRow (W.heap.size + 1) 41 2 v4 (l.take k ++ [(xa, xb)] ++ [(ya, yb)]).length ((l.take k ++ [(xa, xb)] ++ [(ya, yb)]).flatMap It.cells) from by
            rw [List.flatMap_append, List.flatMap_append, List.length_append, List.length_append]
            exact HOw4.out)⟩, by simp [intOf]; omega⟩
        · have hd1 : decide (ya > xa) = false := decide_eq_false hgt
          have HI2 := Lib.hid (show PutI l (xa, xb) (k + 1) false (l.take k ++ [(ya, yb)]) from .inl ⟨rfl, HT.out.symm, by
            rw [HT.out]
            intro z hz
            rcases List.mem_append.1 hz with hz | hz
            · exact hlow z hz
            · rw [List.mem_singleton] at hz
              subst hz
              exact hgt⟩)
          have hll : (l.take k).length = k := by rw [List.length_take]; omega
          clear hlow hgt
          go_wp2_with fail
          go_quiet (fail)
          have HBQ := Lib.hid (below_dR HBW.out nq)
          have HOQ := Lib.hid (show (wr.drewN nq).ownsRow (W.heap.size + 1) 41 2 u5 (l.take k).length ((l.take k).flatMap It.cells) from row_below HOWN.out (below_dR (Below.refl _ _) nq))
          have t0 : (wr.drewN nq).cell? ⟨g, k * 2, none⟩ = some (.int .i64 ya) := a0
          have t1 : (wr.drewN nq).cell? ⟨g, k * 2 + 1, none⟩ = some (.int .i64 yb) := a1
          clear r0 r1 a0 a1
          have HBW := HBQ
          generalize wr.drewN nq = W2 at *
          go_wp2_with (first
            | (at_builtin; refine wpList_append_own _ rfl _ _ 43 rfl (W.heap.size + 1) 41 i0 (.agg #[.int .i64 0, .int .i64 0]) 2 16 Try.underlying43 hi0 hz0 hz1 hz2 rfl (by decide) _ _ _ rfl (HOQ.out.alloc _) ⟨W2.heap.size, 0, none⟩ 1 1 [.int .i64 ya, .int .i64 yb] rfl rfl (by
                  have := World.ownsRow_lit (base := 0) (e := 41) (size := 2) W2 #[.int .i64 ya, .int .i64 yb] 1 (by omega) (by unfold maxLen; omega) rfl
                  exact this.cells (g := W2.heap.size) (by simp [Value.ownBlock])) (by
                  intro u hu
                  simp only [List.mem_cons, List.not_mem_nil, or_false] at hu
                  rcases hu with rfl | rfl <;> rfl) (by unfold maxLen; omega) (by omega) (by have := HBW.out.size; simp; omega) ?_; intro v3 w3 hownw3 hgw3 hnilw3; have hbw3 : Below (W.heap.size + 1) W1 w3 := (bA' HBW.out (by have := HBW.out.size; omega) _).grown hgw3 (by have := HBW.out.size; simp; omega) (fun q e => (HOQ.out.lt q e).1); have HBw3 := Lib.hid hbw3; have HOw3 := Lib.hid hownw3; clear hownw3 hgw3 hnilw3 hbw3))
          exact ⟨⟨k + 1, false, l.take k ++ [(ya, yb)], by go_num, rfl, by omega, by simp only [List.length_append, List.length_cons, List.length_nil]; omega, HI2, HBw3, (show w3.ownsRow (W.heap.size + 1) 41 2 v3 (l.take k ++ [(ya, yb)]).length ((l.take k ++ [(ya, yb)]).flatMap It.cells) from by
            rw [List.flatMap_append, List.length_append]
            exact HOw3.out)⟩, by simp [intOf]; omega⟩
      · have HI2 := Lib.hid (show PutI l (xa, xb) (k + 1) true (O ++ [(ya, yb)]) from .inr ⟨rfl, by rw [HT.out, putL_high _ _ hhi, hO], by
          obtain ⟨z, hz, h⟩ := hhi
          exact ⟨z, by rw [HT.out]; exact List.mem_append_left _ hz, h⟩⟩)
        clear hO hhi
        go_wp2_with fail
        go_quiet (fail)
        have HBQ := Lib.hid (below_dR HBW.out nq)
        have HOQ := Lib.hid (show (wr.drewN nq).ownsRow (W.heap.size + 1) 41 2 u5 (O).length ((O).flatMap It.cells) from row_below HOWN.out (below_dR (Below.refl _ _) nq))
        have t0 : (wr.drewN nq).cell? ⟨g, k * 2, none⟩ = some (.int .i64 ya) := a0
        have t1 : (wr.drewN nq).cell? ⟨g, k * 2 + 1, none⟩ = some (.int .i64 yb) := a1
        clear r0 r1 a0 a1
        have HBW := HBQ
        generalize wr.drewN nq = W2 at *
        go_wp2_with (first
          | (at_builtin; refine wpList_append_own _ rfl _ _ 43 rfl (W.heap.size + 1) 41 i0 (.agg #[.int .i64 0, .int .i64 0]) 2 16 Try.underlying43 hi0 hz0 hz1 hz2 rfl (by decide) _ _ _ rfl (HOQ.out.alloc _) ⟨W2.heap.size, 0, none⟩ 1 1 [.int .i64 ya, .int .i64 yb] rfl rfl (by
                  have := World.ownsRow_lit (base := 0) (e := 41) (size := 2) W2 #[.int .i64 ya, .int .i64 yb] 1 (by omega) (by unfold maxLen; omega) rfl
                  exact this.cells (g := W2.heap.size) (by simp [Value.ownBlock])) (by
                  intro u hu
                  simp only [List.mem_cons, List.not_mem_nil, or_false] at hu
                  rcases hu with rfl | rfl <;> rfl) (by unfold maxLen; omega) (by omega) (by have := HBW.out.size; simp; omega) ?_; intro v3 w3 hownw3 hgw3 hnilw3; have hbw3 : Below (W.heap.size + 1) W1 w3 := (bA' HBW.out (by have := HBW.out.size; omega) _).grown hgw3 (by have := HBW.out.size; simp; omega) (fun q e => (HOQ.out.lt q e).1); have HBw3 := Lib.hid hbw3; have HOw3 := Lib.hid hownw3; clear hownw3 hgw3 hnilw3 hbw3))
        exact ⟨⟨k + 1, true, O ++ [(ya, yb)], by go_num, rfl, by omega, by simp only [List.length_append, List.length_cons, List.length_nil]; omega, HI2, HBw3, (show w3.ownsRow (W.heap.size + 1) 41 2 v3 (O ++ [(ya, yb)]).length ((O ++ [(ya, yb)]).flatMap It.cells) from by
          rw [List.flatMap_append, List.length_append]
          exact HOw3.out)⟩, by simp [intOf]; omega⟩
    · obtain rfl : k = l.length := by omega
      have r0 := kc' (by rw [hs1]; exact HBW.out) q0
      have r1 := kc' (by rw [hs1]; exact HBW.out) q1
      have HMONO := Lib.hid fun (v : Value) (n : Nat) (xs : List Value) (w' : World) (h : w'.ownsRow (W.heap.size + 1) 41 2 v n xs) => (show w'.ownsRow W.heap.size 41 2 v n xs from ⟨h.1, h.2.imp id fun ⟨g, cap, cur, e, hB, r⟩ => ⟨g, cap, cur, e, by omega, r⟩⟩)
      have HUP := Lib.hid fun (w' : World) (h : Below (W.heap.size + 1) W1 w') => bT' hb1 (show Below W1.heap.size W1 w' by rw [hs1]; exact h) hb1.size
      rcases HI.out with ⟨rfl, hO, hlow⟩ | ⟨rfl, hO, hhi⟩
      · rw [List.take_length] at hO hlow
        subst hO
        have HP := Lib.hid (show putL O (xa, xb) = O ++ [(xa, xb)] from by have := putL_low O (xa, xb) hlow []; rwa [List.append_nil, putL] at this)
        clear hlow
        go_wp2_with (first
          | (at_builtin; refine wpList_append_own _ rfl _ _ 43 rfl (W.heap.size + 1) 41 i0 (.agg #[.int .i64 0, .int .i64 0]) 2 16 Try.underlying43 hi0 hz0 hz1 hz2 rfl (by decide) _ _ _ rfl (HOWN.out.alloc _) ⟨wr.heap.size, 0, none⟩ 1 1 [.int .i64 xa, .int .i64 xb] rfl rfl (by
                  have := World.ownsRow_lit (base := 0) (e := 41) (size := 2) wr #[.int .i64 xa, .int .i64 xb] 1 (by omega) (by unfold maxLen; omega) rfl
                  exact this.cells (g := wr.heap.size) (by simp [Value.ownBlock])) (by
                  intro u hu
                  simp only [List.mem_cons, List.not_mem_nil, or_false] at hu
                  rcases hu with rfl | rfl <;> rfl) (by unfold maxLen; omega) (by omega) (by have := HBW.out.size; simp; omega) ?_; intro v3 w3 hownw3 hgw3 hnilw3; have hbw3 : Below (W.heap.size + 1) W1 w3 := (bA' HBW.out (by have := HBW.out.size; omega) _).grown hgw3 (by have := HBW.out.size; simp; omega) (fun q e => (HOWN.out.lt q e).1); have HBw3 := Lib.hid hbw3; have HOw3 := Lib.hid hownw3; clear hownw3 hgw3 hnilw3 hbw3))
        go_ret
        refine ⟨v3, rfl, ?_, HUP.out _ HBw3.out⟩
        rw [HP.out, List.flatMap_append, List.length_append]
        exact HMONO.out _ _ _ _ HOw3.out
      · rw [List.take_length] at hO
        have HP := Lib.hid hO
        clear hO hhi
        go_wp2
        go_ret
        refine ⟨_, rfl, ?_, HUP.out _ HBW.out⟩
        rw [← HP.out]
        exact HMONO.out _ _ _ _ HOWN.out
end Go.Proofs.Ytfjipkkhjjpaiaa
