/-
  gavottelaw03's awake over this seat's translation: the document's example. Conditions: those that each theorem states.
-/
import Derived.Test.YtfjipkkhjjpaiaaNewT
import Derived.Test.YtfjipkkhjjpaiaaBagList
namespace Go.Proofs.Ytfjipkkhjjpaiaa
open Go.RowKit Go.Shelf Go.Lib Go.Sort St

/-- Two sorted lists of which those of each key are the same, in order, are the same. -/
theorem srt_unique {α : Type} {key : α → Int} : ∀ (R S : List α), R.length = S.length → R.Pairwise (fun x y => key x ≤ key y) → S.Pairwise (fun x y => key x ≤ key y) → (∀ k : Int, R.filter (fun x => key x == k) = S.filter (fun x => key x == k)) → R = S
  | [], [], _, _, _, _ => rfl
  | [], y :: S, h, _, _, _ => by simp at h
  | x :: R, [], h, _, _, _ => by simp at h
  | x :: R, y :: S, hl, hr, hs, hf => by
    have hr1 := List.pairwise_cons.1 hr
    have hs1 := List.pairwise_cons.1 hs
    have hx : x ∈ (x :: R).filter (fun z => key z == key x) := List.mem_filter.2 ⟨List.mem_cons_self .., by simp⟩
    have hy : y ∈ (y :: S).filter (fun z => key z == key y) := List.mem_filter.2 ⟨List.mem_cons_self .., by simp⟩
    rw [hf] at hx
    rw [← hf] at hy
    have h1 : key y ≤ key x := by
      rcases List.mem_cons.1 (List.mem_filter.1 hx).1 with e | e
      · rw [e]; exact Int.le_refl _
      · exact hs1.1 x e
    have h2 : key x ≤ key y := by
      rcases List.mem_cons.1 (List.mem_filter.1 hy).1 with e | e
      · rw [e]; exact Int.le_refl _
      · exact hr1.1 y e
    have hk : key x = key y := Int.le_antisymm h2 h1
    have h3 := hf (key x)
    rw [List.filter_cons_of_pos (by simp), List.filter_cons_of_pos (by simp [hk])] at h3
    injection h3 with h4 h5
    subst h4
    refine congrArg (x :: ·) (srt_unique R S (by simpa using hl) hr1.2 hs1.2 fun k => ?_)
    by_cases hkk : key x = k
    · rw [← hkk]; exact h5
    · have h6 := hf k
      rwa [List.filter_cons_of_neg (by simpa using hkk), List.filter_cons_of_neg (by simpa using hkk)] at h6
theorem Ins.unique {α : Type} {key : α → Int} {xs ys R S : List α} (h : Ins key xs ys R) (k : Ins key xs ys S) : R = S := srt_unique R S (by rw [h.len, k.len]) h.srt k.srt fun i => by rw [h.flt, k.flt]

theorem awake_new {R : List It} (h : Ins (fun x : It => x.1) [] [(3, 0), (1, 0)] R) : R = [(1, 0), (3, 0)] :=
  h.unique ⟨rfl, by decide, fun k => by
    by_cases h1 : k = 1
    · subst h1; rfl
    · by_cases h3 : k = 3
      · subst h3; rfl
      · have e1 : ((1 : Int) == k) = false := by rw [beq_eq_false_iff_ne]; omega
        have e3 : ((3 : Int) == k) = false := by rw [beq_eq_false_iff_ne]; omega
        simp [e1, e3]⟩
theorem awake_put {R : List It} (h : Ins (fun x : It => x.1) [(1, 0), (3, 0)] [(2, 0), (1, 5)] R) : R = [(1, 0), (1, 5), (2, 0), (3, 0)] :=
  h.unique ⟨rfl, by decide, fun k => by
    by_cases h1 : k = 1
    · subst h1; rfl
    · by_cases h2 : k = 2
      · subst h2; rfl
      · by_cases h3 : k = 3
        · subst h3; rfl
        · have e1 : ((1 : Int) == k) = false := by rw [beq_eq_false_iff_ne]; omega
          have e2 : ((2 : Int) == k) = false := by rw [beq_eq_false_iff_ne]; omega
          have e3 : ((3 : Int) == k) = false := by rw [beq_eq_false_iff_ne]; omega
          simp [e1, e2, e3]⟩
/-- A literal's row. -/
theorem lit_in (w : World) (ys : List It) (cs : Array Value) (h : cs.toList = ys.flatMap It.cells) : InList It.cells (w.alloc (.cells cs 41)) (some ⟨w.heap.size, 0, none⟩) ys := by
  refine .inr ⟨w.heap.size, 0, rfl, fun j u hu => ?_⟩
  rw [cell_of_row _ _ _ _ _ _ (World.alloc_heap_new w _), Nat.zero_add]
  rw [← h] at hu
  simpa using hu
theorem InList.items {W : World} {p : Option Addr} {ys : List It} (h : InList It.cells W p ys) (h0 : ∀ gl off, p = some ⟨gl, off, none⟩ → off = 0) : ∀ i (hi : i < ys.length), ∃ g, p = some ⟨g, 0, none⟩ ∧ W.cell? ⟨g, i * 2, none⟩ = some (.int .i64 ys[i].1) ∧ W.cell? ⟨g, i * 2 + 1, none⟩ = some (.int .i64 ys[i].2) := by
  intro i hi
  rcases h with rfl | ⟨gl, off, rfl, hc⟩
  · simp at hi
  · obtain rfl := h0 gl off rfl
    refine ⟨gl, rfl, ?_, ?_⟩
    · have := hc (i * 2) _ (by have := flat_get cT_len ys i 0 hi (by omega); rw [Nat.add_zero] at this; exact this)
      rwa [Nat.zero_add] at this
    · have := hc (i * 2 + 1) _ (flat_get cT_len ys i 1 hi (by omega))
      rwa [Nat.zero_add] at this
theorem row_items {W : World} {B : Nat} {v : Value} {ys : List It} (h : W.ownsRow B 41 2 v ys.length (ys.flatMap It.cells)) : ∃ p cap, v = .slice p ys.length cap ∧ ∀ i (hi : i < ys.length), ∃ g, p = some ⟨g, 0, none⟩ ∧ W.cell? ⟨g, i * 2, none⟩ = some (.int .i64 ys[i].1) ∧ W.cell? ⟨g, i * 2 + 1, none⟩ = some (.int .i64 ys[i].2) := by
  have hrow := h
  rcases id h.2 with ⟨rfl, e⟩ | ⟨g, cap, cur, rfl, _⟩
  · exact ⟨none, 0, by rw [e], fun i hi => by omega⟩
  · refine ⟨_, cap, rfl, fun i hi => ⟨g, rfl, ?_, ?_⟩⟩
    · have h1 := flat_get cT_len ys i 0 hi (by omega)
      rw [Nat.add_zero] at h1
      rw [hrow.cellAt (i * 2) (by omega), h1]
      rfl
    · rw [hrow.cellAt (i * 2 + 1) (by omega), flat_get cT_len ys i 1 hi (by omega)]
      rfl

set_option maxHeartbeats 8000000 in
set_option maxRecDepth 100000 in
theorem awake_c (w : World) : Calls Try.prog 9 #[] w fun e w' => e = .returned (.bool true) ∧ Below w.heap.size w w' := by
  have hw1 : Below w.heap.size w (w.alloc (.cells #[.int .i64 3, .int .i64 0, .int .i64 1, .int .i64 0] 41)) := bA' (Below.refl _ _) (Nat.le_refl _) _
  have KN := Lib.hid (new_T 2 _ [(3, 0), (1, 0)] _ (lit_in w [(3, 0), (1, 0)] #[.int .i64 3, .int .i64 0, .int .i64 1, .int .i64 0] rfl) (by decide))
  have HW1 := Lib.hid hw1
  clear hw1
  go_enter Try.func9, Try.ntmps9
  go_wp2_with fail
  refine KN.out.mono ?_
  rintro e w2 ⟨hb2, b, sv, R, rfl, hown, hins⟩
  obtain rfl := awake_new hins
  have hb02 : Below w.heap.size w w2 := bT' HW1.out hb2 HW1.out.size
  have hbag2 := hown.bag.below (bA' (Below.refl w2.heap.size w2) (Nat.le_refl _) (.cells #[.int .i64 2, .int .i64 0, .int .i64 1, .int .i64 5] 41))
  have KP := Lib.hid (put_T b 2 _ sv _ [(2, 0), (1, 5)] _ hbag2 (lit_in w2 [(2, 0), (1, 5)] #[.int .i64 2, .int .i64 0, .int .i64 1, .int .i64 5] rfl) (by decide))
  have HB2 := Lib.hid (And.intro hb02 (And.intro hown.base (And.intro hown.row HW1.out.size)))
  clear hb2 hown hins hb02 hbag2 KN HW1
  go_wp2_with fail
  refine KP.out.mono ?_
  rintro e w3 ⟨rfl, sv3, R3, hbag3, hins3, _, ht3⟩
  obtain rfl := awake_put hins3
  have hb03 : Below w.heap.size w w3 := by
    have h := HB2.out
    rw [World.size_alloc] at h
    exact (h.1.alloc h.1.size _).trans (ht3.below_of (by rw [World.size_alloc]; have := h.1.size; omega) (by omega) (fun g e => by have := h.2.2.1 g e; omega))
  have KL := Lib.hid (list_c b 0 _ w3 hbag3.bag (by decide))
  have HB3 := Lib.hid (And.intro hb03 hbag3)
  clear hins3 ht3 hb03 hbag3 KP HB2
  go_wp2_with fail
  refine KL.out.mono ?_
  rintro e w4 ⟨ov, rfl, hrow4, hb4⟩
  obtain ⟨p4, c4, rfl, hx4⟩ := row_items hrow4
  have hb04 : Below w.heap.size w w4 := bT' HB3.out.1 hb4 HB3.out.1.size
  have hb45 := bA' (Below.refl w4.heap.size w4) (Nat.le_refl _) (.cells #[.int .i64 1, .int .i64 0, .int .i64 1, .int .i64 5, .int .i64 2, .int .i64 0, .int .i64 3, .int .i64 0] 41)
  have KS := Lib.hid (rsame_c [(1, 0), (1, 5), (2, 0), (3, 0)] [(1, 0), (1, 5), (2, 0), (3, 0)] p4 _ c4 4 _ (by decide) (fun i hi => by
    obtain ⟨g, e, h1, h2⟩ := hx4 i hi
    exact ⟨g, e, kc' hb45 h1, kc' hb45 h2⟩) ((lit_in w4 [(1, 0), (1, 5), (2, 0), (3, 0)] #[.int .i64 1, .int .i64 0, .int .i64 1, .int .i64 5, .int .i64 2, .int .i64 0, .int .i64 3, .int .i64 0] rfl).items (fun gl off e => by cases e; rfl)))
  have HB5 := Lib.hid (And.intro (hb04.alloc hb04.size (.cells #[.int .i64 1, .int .i64 0, .int .i64 1, .int .i64 5, .int .i64 2, .int .i64 0, .int .i64 3, .int .i64 0] 41)) ((HB3.out.2.below hb4).below hb45))
  clear hrow4 hb4 hx4 hb04 hb45 KL HB3
  go_wp2_with fail
  refine KS.out.mono ?_
  rintro e w5 ⟨rfl, hb5⟩
  have KL := Lib.hid (len_T b 0 _ w5 (HB5.out.2.below hb5).bag)
  have HB6 := Lib.hid (bT' HB5.out.1 hb5 HB5.out.1.size)
  clear hb5 KS HB5
  go_wp2_with fail
  refine KL.out.mono ?_
  rintro e w6 ⟨rfl, rfl⟩
  go_wp2
  go_ret
  exact ⟨rfl, HB6.out⟩
end Go.Proofs.Ytfjipkkhjjpaiaa
