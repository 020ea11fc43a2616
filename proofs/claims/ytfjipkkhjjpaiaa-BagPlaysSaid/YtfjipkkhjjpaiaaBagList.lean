/-
  gavottelaw03's list over this seat's translation: all that a bag of items has, place by place. Conditions: those that each theorem states.
-/
import Derived.Test.YtfjipkkhjjpaiaaBagSame
import Derived.OwnWalk
namespace Go.Proofs.Ytfjipkkhjjpaiaa
open Go.Shelf Go.RowKit Go.Lib Go.Sort St

theorem infoIt : (Try.prog.info? 41).map (fun i => (i.zero, i.size, i.bytes)) = some (some (.agg #[.int .i64 0, .int .i64 0]), 2, 16) := by kernel_rfl
theorem row_below {w w' : World} {B e size n : Nat} {v : Value} {xs : List Value} (h : w.ownsRow B e size v n xs) (hb : Below w.heap.size w w') : w'.ownsRow B e size v n xs := by
  refine ⟨h.1, ?_⟩
  rcases h.2 with h3 | ⟨g, cap, cur, e, hB, hg, rest⟩
  · exact .inl h3
  · exact .inr ⟨g, cap, cur, e, hB, (hb.block g (Array.getElem?_eq_some_iff.1 hg).1).trans hg, rest⟩

set_option maxHeartbeats 4000000 in
set_option maxRecDepth 100000 in
theorem list_c (b B : Nat) (xs : List It) (W : World) (h : BagT W b B xs) (hn : xs.length ≤ 1000000) :
    Calls Try.prog 28 #[.pointer (some ⟨b, 0, none⟩)] W fun e w' => ∃ ov, e = .returned ov ∧ w'.ownsRow W.heap.size 41 2 ov xs.length (xs.flatMap It.cells) ∧ Below W.heap.size W w' := by
  have HB := Lib.hid h
  obtain ⟨i0, hi0, hz0, hz1, hz2⟩ := info_parts infoIt
  clear h
  go_enter Try.func28, Try.ntmps28
  go_wp2
  go_loopw [3, 4] (fun ov v wr => ∃ k : Nat, v = .int .i64 k ∧ k ≤ xs.length ∧ Below W.heap.size W wr ∧ wr.ownsRow W.heap.size 41 2 ov k ((xs.take k).flatMap It.cells)) (fun _ v _ => xs.length - (intOf v).toNat)
  case atStart => exact ⟨0, rfl, Nat.zero_le _, Below.refl _ _, World.ownsRow_nil _ _ _ _⟩
  case round =>
    obtain ⟨k, rfl, hk, hb, hrow⟩ := hrel
    have hbag := HB.out.below hb
    have KL := len_T b B xs wr hbag
    by_cases hlt : k < xs.length
    · have hkz : (k : Int) < (xs.length : Int) := by omega
      have KA := at_T b B xs k hlt wr hbag
      have HR := Lib.hid (And.intro hb hrow)
      have HE := Lib.hid (show (xs.take (k + 1)).flatMap It.cells = (xs.take k).flatMap It.cells ++ [.int .i64 xs[k].1, .int .i64 xs[k].2] from by
        rw [List.take_add_one, List.getElem?_eq_getElem hlt, List.flatMap_append]
        rfl)
      generalize xs[k].1 = xa at *
      generalize xs[k].2 = xb at *
      clear hb hrow hbag
      go_wp2_with fail
      refine KL.mono ?_
      rintro e w1 ⟨rfl, rfl⟩
      go_wp2_with fail
      refine KA.mono ?_
      rintro e w2 ⟨rfl, hb2⟩
      have hrow2 := row_below HR.out.2 hb2
      have HW2 := Lib.hid (bT' HR.out.1 hb2 HR.out.1.size)
      have hs2 := HW2.out.size
      have HROW := Lib.hid hrow2
      clear hb2 hrow2 KL KA
      go_wp2_with (at_builtin; refine wpList_append_own _ rfl _ _ 43 rfl W.heap.size 41 i0 (.agg #[.int .i64 0, .int .i64 0]) 2 16 Try.underlying43 hi0 hz0 hz1 hz2 rfl (by decide) _ _ _ rfl ((HROW.out.alloc _).alloc _) ⟨w2.heap.size + 1, 0, none⟩ 1 1 [.int .i64 xa, .int .i64 xb] rfl rfl (by
          have := World.ownsRow_lit (base := 0) (e := 41) (size := 2) (w2.alloc (.cells #[.int .i64 xa, .int .i64 xb] 41)) #[.int .i64 xa, .int .i64 xb] 1 (by omega) (by unfold maxLen; omega) rfl
          exact this.cells (g := w2.heap.size + 1) (by simp [Value.ownBlock])) (by
          intro u hu
          simp only [List.mem_cons, List.not_mem_nil, or_false] at hu
          rcases hu with rfl | rfl <;> rfl) (by unfold maxLen; omega) (by omega) (by simp; omega) ?_; intro v' w3 hown' hg3 hnil3)
      refine ⟨⟨k + 1, by go_num, by omega, ?_, ?_⟩, by simp [intOf]; omega⟩
      · have h1 : Below W.heap.size W ((w2.alloc (.cells #[.int .i64 xa, .int .i64 xb] 41)).alloc (.cells #[.int .i64 xa, .int .i64 xb] 41)) := bA' (bA' HW2.out HW2.out.size _) (by simp; omega) _
        exact h1.grown hg3 h1.size fun q e => (HROW.out.lt q e).1
      · rw [HE.out]
        exact hown'
    · have hkn : ¬ ((k : Int) < (xs.length : Int)) := by omega
      have HR := Lib.hid (And.intro hb hrow)
      clear hb hrow hbag
      go_wp2_with fail
      refine KL.mono ?_
      rintro e w1 ⟨rfl, rfl⟩
      go_wp2
      go_ret
      refine ⟨_, rfl, ?_, HR.out.1⟩
      have := HR.out.2
      rwa [show k = xs.length from by omega, List.take_length] at this
end Go.Proofs.Ytfjipkkhjjpaiaa
