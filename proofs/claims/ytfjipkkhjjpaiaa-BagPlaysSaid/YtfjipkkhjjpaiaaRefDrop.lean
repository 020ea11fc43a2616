/-
  The given package gavotteref03's Drop and Count over this seat's translation. Conditions: those that each theorem states.
-/
import Derived.Test.YtfjipkkhjjpaiaaRefPut
import Derived.OwnWalk
import Derived.Deep.QuietTactic
import Derived.BigQuiet
namespace Go.Proofs.Ytfjipkkhjjpaiaa
open Go.RowKit Go.Shelf Go.Lib Go.Sort St

/-- Between two rounds of Drop. -/
def DropI (l : List It) (n : Int) (k : Nat) (d : Bool) (O : List It) : Prop := (d = false ∧ O = l.take k ∧ ∀ y ∈ l.take k, ¬ (y.1 == n) = true) ∨ (d = true ∧ O = (l.take k).eraseP (fun y => y.1 == n) ∧ (l.take k).any (fun y => y.1 == n) = true)
theorem dropI_end {l : List It} {n : Int} {d : Bool} {O : List It} (h : DropI l n l.length d O) : d = l.any (fun y => y.1 == n) ∧ O = l.eraseP (fun y => y.1 == n) := by
  rcases h with ⟨rfl, rfl, h⟩ | ⟨rfl, rfl, h⟩
  · rw [List.take_length] at h ⊢
    exact ⟨(List.any_eq_false.2 h).symm, (List.eraseP_of_forall_not h).symm⟩
  · rw [List.take_length] at h ⊢
    exact ⟨h.symm, rfl⟩

set_option maxHeartbeats 8000000 in
set_option maxRecDepth 100000 in
theorem rdrop_c (l : List It) (n : Int) (p : Option Addr) (cap : Nat) (W : World) (hn : l.length ≤ 1000) (hx : ∀ i (hi : i < l.length), ∃ g, p = some ⟨g, 0, none⟩ ∧ W.cell? ⟨g, i * 2, none⟩ = some (.int .i64 l[i].1) ∧ W.cell? ⟨g, i * 2 + 1, none⟩ = some (.int .i64 l[i].2)) :
    Calls Try.prog 21 #[.slice p l.length cap, .int .i64 n] W fun e w' => ∃ ov, e = .returned (.tuple #[ov, .bool (l.any fun y => y.1 == n)]) ∧ w'.ownsRow W.heap.size 41 2 ov (l.eraseP fun y => y.1 == n).length ((l.eraseP fun y => y.1 == n).flatMap It.cells) ∧ Below W.heap.size W w' := by
  obtain ⟨i0, hi0, hz0, hz1, hz2⟩ := info_parts infoIt
  have hX := Lib.hid hx
  clear hx
  go_enter Try.func21, Try.ntmps21
  go_wp2
  go_loopw [6, 7, 8] (fun ov dv iv wr => ∃ (k : Nat) (d : Bool) (O : List It), iv = .int .i64 k ∧ dv = .bool d ∧ k ≤ l.length ∧ O.length ≤ k ∧ Hid (DropI l n k d O) ∧ Hid (Below W.heap.size W wr) ∧ Hid (wr.ownsRow W.heap.size 41 2 ov O.length (O.flatMap It.cells))) (fun _ _ v _ => l.length - (intOf v).toNat)
  case atStart => exact ⟨0, false, [], rfl, rfl, Nat.zero_le _, by simp, .inl ⟨rfl, rfl, fun y hy => by simp at hy⟩, Below.refl _ _, World.ownsRow_nil _ _ _ _⟩
  case round =>
    obtain ⟨k, d, O, rfl, rfl, hk, hOl, HI, HBW, HOWN⟩ := hrel
    by_cases hlt : k < l.length
    · have hkz : (k : Int) < (l.length : Int) := by omega
      obtain ⟨g, rfl, a0, a1⟩ := hX.out k hlt
      have a0 := kc' HBW.out a0
      have a1 := kc' HBW.out a1
      have HT := Lib.hid (take_snoc hlt)
      obtain ⟨y, hy⟩ : ∃ y, l[k] = y := ⟨_, rfl⟩
      rw [hy] at a0 a1
      have HT := Lib.hid (show l.take (k + 1) = l.take k ++ [y] from by rw [HT.out, hy])
      obtain ⟨ya, yb⟩ := y
      dsimp only at a0 a1
      clear hy
      rcases HI.out with ⟨rfl, rfl, hno⟩ | ⟨rfl, hO, hyes⟩
      · by_cases heq : ya = n
        · have hd1 : (ya == n) = true := beq_iff_eq.2 heq
          have HI2 := Lib.hid (show DropI l n (k + 1) true (l.take k) from .inr ⟨rfl, by
            rw [HT.out, List.eraseP_append_right _ hno]
            rw [List.eraseP_cons_of_pos (p := fun y : It => y.1 == n) (a := (ya, yb)) (l := []) hd1, List.append_nil], by rw [HT.out, List.any_append]; simp [hd1]⟩)
          clear hno
          subst heq
          go_wp2
          exact ⟨⟨k + 1, true, l.take k, by go_num, rfl, by omega, by omega, HI2, HBW, HOWN⟩, by simp [intOf]; omega⟩
        · have hd1 : (ya == n) = false := beq_eq_false_iff_ne.2 heq
          have HI2 := Lib.hid (show DropI l n (k + 1) false (l.take k ++ [(ya, yb)]) from .inl ⟨rfl, HT.out.symm, by
            rw [HT.out]
            intro z hz
            rcases List.mem_append.1 hz with hz | hz
            · exact hno z hz
            · rw [List.mem_singleton] at hz
              subst hz
              simpa using heq⟩)
          have hll : (l.take k).length = k := by rw [List.length_take]; omega
          clear hno heq
          go_wp2_with (first
            | (at_builtin; refine wpList_append_own _ rfl _ _ 43 rfl W.heap.size 41 i0 (.agg #[.int .i64 0, .int .i64 0]) 2 16 Try.underlying43 hi0 hz0 hz1 hz2 rfl (by decide) _ _ _ rfl (HOWN.out.alloc _) ⟨wr.heap.size, 0, none⟩ 1 1 [.int .i64 ya, .int .i64 yb] rfl rfl (by
                  have := World.ownsRow_lit (base := 0) (e := 41) (size := 2) wr #[.int .i64 ya, .int .i64 yb] 1 (by omega) (by unfold maxLen; omega) rfl
                  exact this.cells (g := wr.heap.size) (by simp [Value.ownBlock])) (by
                  intro u hu
                  simp only [List.mem_cons, List.not_mem_nil, or_false] at hu
                  rcases hu with rfl | rfl <;> rfl) (by unfold maxLen; omega) (by omega) (by have := HBW.out.size; simp; omega) ?_; intro v3 w3 hownw3 hgw3 hnilw3; have hbw3 : Below W.heap.size W w3 := (bA' HBW.out HBW.out.size _).grown hgw3 (by have := HBW.out.size; simp; omega) (fun q e => (HOWN.out.lt q e).1); have HBw3 := Lib.hid hbw3; have HOw3 := Lib.hid hownw3; clear hownw3 hgw3 hnilw3 hbw3))
          exact ⟨⟨k + 1, false, l.take k ++ [(ya, yb)], by go_num, rfl, by omega, by simp only [List.length_append, List.length_cons, List.length_nil]; omega, HI2, HBw3, (show w3.ownsRow W.heap.size 41 2 v3 (l.take k ++ [(ya, yb)]).length ((l.take k ++ [(ya, yb)]).flatMap It.cells) from by
            rw [List.flatMap_append, List.length_append]
            exact HOw3.out)⟩, by simp [intOf]; omega⟩
      · have HI2 := Lib.hid (show DropI l n (k + 1) true (O ++ [(ya, yb)]) from .inr ⟨rfl, by
          obtain ⟨z, hz, h⟩ := List.any_eq_true.1 hyes
          rw [HT.out, List.eraseP_append_left (p := fun y : It => y.1 == n) h _ hz, hO], by rw [HT.out, List.any_append, hyes]; rfl⟩)
        clear hO hyes
        go_wp2_with (first
          | (at_builtin; refine wpList_append_own _ rfl _ _ 43 rfl W.heap.size 41 i0 (.agg #[.int .i64 0, .int .i64 0]) 2 16 Try.underlying43 hi0 hz0 hz1 hz2 rfl (by decide) _ _ _ rfl (HOWN.out.alloc _) ⟨wr.heap.size, 0, none⟩ 1 1 [.int .i64 ya, .int .i64 yb] rfl rfl (by
                  have := World.ownsRow_lit (base := 0) (e := 41) (size := 2) wr #[.int .i64 ya, .int .i64 yb] 1 (by omega) (by unfold maxLen; omega) rfl
                  exact this.cells (g := wr.heap.size) (by simp [Value.ownBlock])) (by
                  intro u hu
                  simp only [List.mem_cons, List.not_mem_nil, or_false] at hu
                  rcases hu with rfl | rfl <;> rfl) (by unfold maxLen; omega) (by omega) (by have := HBW.out.size; simp; omega) ?_; intro v3 w3 hownw3 hgw3 hnilw3; have hbw3 : Below W.heap.size W w3 := (bA' HBW.out HBW.out.size _).grown hgw3 (by have := HBW.out.size; simp; omega) (fun q e => (HOWN.out.lt q e).1); have HBw3 := Lib.hid hbw3; have HOw3 := Lib.hid hownw3; clear hownw3 hgw3 hnilw3 hbw3))
        exact ⟨⟨k + 1, true, O ++ [(ya, yb)], by go_num, rfl, by omega, by simp only [List.length_append, List.length_cons, List.length_nil]; omega, HI2, HBw3, (show w3.ownsRow W.heap.size 41 2 v3 (O ++ [(ya, yb)]).length ((O ++ [(ya, yb)]).flatMap It.cells) from by
          rw [List.flatMap_append, List.length_append]
          exact HOw3.out)⟩, by simp [intOf]; omega⟩
    · obtain rfl : k = l.length := by omega
      obtain ⟨rfl, rfl⟩ := dropI_end HI.out
      go_wp2
      go_ret2
      exact ⟨_, rfl, HOWN.out, HBW.out⟩

set_option maxHeartbeats 4000000 in
set_option maxRecDepth 100000 in
theorem rcount_c (l : List It) (n : Int) (p : Option Addr) (cap : Nat) (W : World) (hn : l.length ≤ 1000) (hx : ∀ i (hi : i < l.length), ∃ g, p = some ⟨g, 0, none⟩ ∧ W.cell? ⟨g, i * 2, none⟩ = some (.int .i64 l[i].1) ∧ W.cell? ⟨g, i * 2 + 1, none⟩ = some (.int .i64 l[i].2)) :
    Calls Try.prog 24 #[.slice p l.length cap, .int .i64 n] W fun e w' => e = .returned (.int .i64 (l.countP (fun y => y.1 == n) : Nat)) ∧ w' = W := by
  have hX := Lib.hid hx
  clear hx
  go_enter Try.func24, Try.ntmps24
  go_wp2
  go_loopw [5, 6] (fun cv iv wr => ∃ k : Nat, iv = .int .i64 k ∧ cv = .int .i64 ((l.take k).countP (fun y => y.1 == n) : Nat) ∧ k ≤ l.length ∧ wr = W) (fun _ v _ => l.length - (intOf v).toNat)
  case atStart => exact ⟨0, rfl, rfl, Nat.zero_le _, rfl⟩
  case round =>
    obtain ⟨k, rfl, rfl, hk, rfl⟩ := hrel
    by_cases hlt : k < l.length
    · have hkz : (k : Int) < (l.length : Int) := by omega
      obtain ⟨g, rfl, a0, _⟩ := hX.out k hlt
      have hle := List.countP_le_length (p := fun y : It => y.1 == n) (l := l.take k)
      rw [List.length_take] at hle
      have hle2 : (l.take k).countP (fun y => y.1 == n) ≤ 1000 := by omega
      have HT := Lib.hid (show (l.take (k + 1)).countP (fun y => y.1 == n) = (l.take k).countP (fun y => y.1 == n) + if (l[k].1 == n) = true then 1 else 0 from by
        rw [take_snoc hlt, List.countP_append]
        simp [List.countP_cons])
      generalize (l.take k).countP (fun y => y.1 == n) = c at *
      have hwc : IntKind.i64.wrap ((c : Int) + 1) = (c : Int) + 1 := by rw [IntKind.wrap_i64] <;> omega
      obtain ⟨ya, hy⟩ : ∃ ya, l[k].1 = ya := ⟨_, rfl⟩
      rw [hy] at a0 HT
      clear hy hle
      by_cases heq : ya = n
      · have hd1 : (ya == n) = true := beq_iff_eq.2 heq
        have HT2 := Lib.hid (HT.out.trans (by rw [if_pos hd1]))
        subst heq
        go_wp2
        exact ⟨⟨k + 1, by go_num, by rw [HT2.out]; go_num, by omega, trivial⟩, by simp [intOf]; omega⟩
      · have hd1 : (ya == n) = false := beq_eq_false_iff_ne.2 heq
        have HT2 := Lib.hid (HT.out.trans (by rw [if_neg (by simpa using heq)]))
        go_wp2
        exact ⟨⟨k + 1, by go_num, by rw [HT2.out]; rfl, by omega, trivial⟩, by simp [intOf]; omega⟩
    · obtain rfl : k = l.length := by omega
      rw [List.take_length]
      go_wp2
      go_ret
      exact ⟨rfl, rfl⟩
end Go.Proofs.Ytfjipkkhjjpaiaa
