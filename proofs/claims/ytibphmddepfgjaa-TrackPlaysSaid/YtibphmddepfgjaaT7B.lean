/-
  How many of a track's entries are less than a stamp, not greater than one, over this seat's translation. Conditions: those that each theorem states.
-/
import Derived.Test.YtibphmddepfgjaaT7A
namespace Go.Proofs.Ytibphmddepfgjaa.Tr
open Go.RowKit Go.Shelf Go.Lib Go.Sort

theorem entAt {W : World} {v : Value} {L : List En} {G : Option Nat} (h : Ents W v L G) {i : Nat} (hi : i < L.length) : ∃ g off cap, v = .slice (some ⟨g, off, none⟩) L.length cap ∧ G = some g ∧ W.cell? ⟨g, off + i * 4, none⟩ = some (.int .i64 (gE L i).1.1) ∧ W.cell? ⟨g, off + i * 4 + 1, none⟩ = some (.int .i64 (gE L i).1.2.1) ∧ W.cell? ⟨g, off + i * 4 + 2, none⟩ = some (.int .i64 (gE L i).1.2.2) ∧ W.cell? ⟨g, off + i * 4 + 3, none⟩ = some (.int .i64 (gE L i).2) := by
  rcases h with ⟨p, e, eL, _⟩ | ⟨g, off, cap, cur, e, eG, h0, h1, h2, h3, h4⟩
  · rw [eL] at hi
    exact absurd hi (Nat.not_lt_zero _)
  · have hg := gE_get hi
    have hc : ∀ j u, (cE (gE L i))[j]? = some u → W.cell? ⟨g, off + i * 4 + j, none⟩ = some u := fun j u hj => by
      rw [cell_of_row W g _ cur _ (0, 0) h2, Nat.add_assoc]
      exact h4 _ u (flat_at hg hj)
    exact ⟨g, off, cap, e, eG, hc 0 _ rfl, hc 1 _ rfl, hc 2 _ rfl, hc 3 _ rfl⟩
theorem mem_gE {L : List En} {i : Nat} (hi : i < L.length) : gE L i ∈ L := List.mem_of_getElem? (gE_get hi)

set_option maxHeartbeats 4000000 in
set_option maxRecDepth 100000 in
theorem belowF_c (b Bt Bs g off n cap i : Nat) (s x : Sp) (W : World) (hs : s.I) (hx : x.I) (h1 : W.cell? ⟨Bt, 0, none⟩ = some (.pointer (some ⟨b, 0, none⟩))) (s0 : W.cell? ⟨Bs, 0, none⟩ = some (.int .i64 s.1)) (s1 : W.cell? ⟨Bs, 1, none⟩ = some (.int .i64 s.2.1)) (s2 : W.cell? ⟨Bs, 2, none⟩ = some (.int .i64 s.2.2))
    (h3 : W.cell? ⟨b, 0, none⟩ = some (.slice (some ⟨g, off, none⟩) n cap)) (x0 : W.cell? ⟨g, off + i * 4, none⟩ = some (.int .i64 x.1)) (x1 : W.cell? ⟨g, off + i * 4 + 1, none⟩ = some (.int .i64 x.2.1)) (x2 : W.cell? ⟨g, off + i * 4 + 2, none⟩ = some (.int .i64 x.2.2)) (hi : i < n) :
    Calls Try.prog 50 (#[.int .i64 (i : Nat)] ++ #[.pointer (some ⟨Bt, 0, none⟩), .pointer (some ⟨Bs, 0, none⟩)]) W fun e w' => e = .returned (.bool (!decide (cmp x s < 0))) ∧ Below W.heap.size W w' := by
  have mixed : Try.prog.follows .mixedOrders = true := by kernel_rfl
  have hiz : (i : Int) < (n : Int) := by omega
  have hi0 : (0 : Int) ≤ (i : Int) := by omega
  have K := Lib.hid (pless_c x.1 x.2.1 x.2.2 s.1 s.2.1 s.2.2 hx hs)
  clear hs hx
  simp only [List.append_toArray, List.cons_append, List.nil_append]
  go_enter Try.func50, Try.ntmps50
  go_wp2_with fail
  go_region_held3 (fun w' => w'.cell? ⟨Bt, 0, none⟩ = some (.pointer (some ⟨b, 0, none⟩)) ∧ w'.cell? ⟨Bs, 0, none⟩ = some (.int .i64 s.1) ∧ w'.cell? ⟨Bs, 1, none⟩ = some (.int .i64 s.2.1) ∧ w'.cell? ⟨Bs, 2, none⟩ = some (.int .i64 s.2.2) ∧ w'.cell? ⟨b, 0, none⟩ = some (.slice (some ⟨g, off, none⟩) n cap) ∧ w'.cell? ⟨g, off + i * 4, none⟩ = some (.int .i64 x.1) ∧ w'.cell? ⟨g, off + i * 4 + 1, none⟩ = some (.int .i64 x.2.1) ∧ w'.cell? ⟨g, off + i * 4 + 2, none⟩ = some (.int .i64 x.2.2) ∧ Below W.heap.size W w')
    (first | (go_split_ands; with_reducible exact ⟨keepc hb (by assumption), keepc hb (by assumption), keepc hb (by assumption), keepc hb (by assumption), keepc hb (by assumption), keepc hb (by assumption), keepc hb (by assumption), keepc hb (by assumption), belowT (by assumption) hb⟩) | exact ⟨h1, s0, s1, s2, h3, x0, x1, x2, Below.drew (Below.refl _ W)⟩ | go_keep)
    (first | (go_at_call 27; refine (K.out _).mono ?_; rintro e w6 ⟨rfl, hb⟩))
  all_goals go_wp2
  all_goals go_ret
  all_goals exact ⟨rfl, (by go_split_ands; repeat (first | with_reducible assumption | with_reducible exact Below.refl _ _ | with_reducible refine Below.drew ?_ | with_reducible refine belowT ?_ (by assumption)))⟩

set_option maxHeartbeats 4000000 in
set_option maxRecDepth 100000 in
theorem below_c {W : World} {b k : Nat} {L : List En} {G : Option Nat} {v : Value} (h : TkS W b k L G v) (s : Sp) (hs : s.I) (hR : s.R = true) :
    Calls Try.prog 36 #[.pointer (some ⟨b, 0, none⟩), s.v] W fun e w' => e = .returned (.int .i64 ((nb L s : Nat) : Int)) ∧ Below W.heap.size W w' := by
  obtain ⟨W2, hW2⟩ : ∃ W2, (W.alloc (.cells #[.pointer (some ⟨b, 0, none⟩)] 28)).alloc (.cells #[.int .i64 s.1, .int .i64 s.2.1, .int .i64 s.2.2] 33) = W2 := ⟨_, rfl⟩
  have hB : Below W.heap.size W W2 := hW2 ▸ bA' (bA' (Below.refl _ _) (Nat.le_refl _) _) (by simp) _
  have hb1 : W2.heap[W.heap.size]? = some (.cells #[.pointer (some ⟨b, 0, none⟩)] 28 (0, 0)) := by
    rw [← hW2, Below.heap_alloc _ _ _ (by simp)]
    exact World.alloc_heap_new W _
  have hb2 : W2.heap[W.heap.size + 1]? = some (.cells #[.int .i64 s.1, .int .i64 s.2.1, .int .i64 s.2.2] 33 (0, 0)) := by
    have := World.alloc_heap_new (W.alloc (.cells #[.pointer (some ⟨b, 0, none⟩)] 28)) (.cells #[.int .i64 s.1, .int .i64 s.2.1, .int .i64 s.2.2] 33)
    rw [World.size_alloc] at this
    rw [← hW2]
    exact this
  have h2 := h.below hB
  obtain ⟨pv, cv, hv, _, _⟩ := h.ents.slice
  have q1 : W2.cell? ⟨W.heap.size, 0, none⟩ = some (.pointer (some ⟨b, 0, none⟩)) := by unfold World.cell?; rw [hb1]; rfl
  have q3 : W2.cell? ⟨b, 0, none⟩ = some (.slice pv L.length cv) := by rw [← hv]; exact (cell_two h2.box).1
  have KS := search_c 50 #[.pointer (some ⟨W.heap.size, 0, none⟩), .pointer (some ⟨W.heap.size + 1, 0, none⟩)] L.length (nb L s) (fun i => !decide (cmp (gE L i).1 s < 0)) W2 (enters_of Try.func50 (by kernel_rfl) rfl) (by have := h.room; omega) (nb_le h.rise hR) (fun i hi => nb_lt h.rise hR hi) (fun i i1 i2 => nb_ge h.rise hR i1 i2) (fun i W3 hb3 hi => by
    have h3 := h2.below hb3
    obtain ⟨g, off, cap, ev, eG, x0, x1, x2, _⟩ := entAt h3.ents hi
    obtain ⟨s0, s1, s2⟩ := cells3 hb2 hb3
    refine belowF_c b W.heap.size (W.heap.size + 1) g off L.length cap i s (gE L i).1 W3 hs (h.small _ (mem_gE hi)).1 (kc' hb3 q1) s0 s1 s2 ?_ x0 x1 x2 hi
    rw [← ev]
    exact (cell_two h3.box).1)
  rw [← hW2] at q1 q3
  have HK := Lib.hid KS
  have HW := Lib.hid hW2
  have HB := Lib.hid hB
  clear KS hb1 hb2 h2 h hs hR hW2 hB hv
  go_enter Try.func36, Try.ntmps36
  go_wp2_with fail
  rw [HW.out]
  refine HK.out.mono ?_
  rintro e w3 ⟨rfl, hb⟩
  have H3 := Lib.hid (bT' HB.out hb HB.out.size)
  clear hb
  go_wp2
  go_ret
  exact ⟨rfl, H3.out⟩

set_option maxHeartbeats 4000000 in
set_option maxRecDepth 100000 in
theorem upToF_c (b Bt Bs g off n cap i : Nat) (s x : Sp) (W : World) (hs : s.I) (hx : x.I) (h1 : W.cell? ⟨Bt, 0, none⟩ = some (.pointer (some ⟨b, 0, none⟩))) (s0 : W.cell? ⟨Bs, 0, none⟩ = some (.int .i64 s.1)) (s1 : W.cell? ⟨Bs, 1, none⟩ = some (.int .i64 s.2.1)) (s2 : W.cell? ⟨Bs, 2, none⟩ = some (.int .i64 s.2.2))
    (h3 : W.cell? ⟨b, 0, none⟩ = some (.slice (some ⟨g, off, none⟩) n cap)) (x0 : W.cell? ⟨g, off + i * 4, none⟩ = some (.int .i64 x.1)) (x1 : W.cell? ⟨g, off + i * 4 + 1, none⟩ = some (.int .i64 x.2.1)) (x2 : W.cell? ⟨g, off + i * 4 + 2, none⟩ = some (.int .i64 x.2.2)) (hi : i < n) :
    Calls Try.prog 44 (#[.int .i64 (i : Nat)] ++ #[.pointer (some ⟨Bs, 0, none⟩), .pointer (some ⟨Bt, 0, none⟩)]) W fun e w' => e = .returned (.bool (decide (cmp s x < 0))) ∧ Below W.heap.size W w' := by
  have mixed : Try.prog.follows .mixedOrders = true := by kernel_rfl
  have hiz : (i : Int) < (n : Int) := by omega
  have hi0 : (0 : Int) ≤ (i : Int) := by omega
  have K := Lib.hid (pless_c s.1 s.2.1 s.2.2 x.1 x.2.1 x.2.2 hs hx)
  clear hs hx
  simp only [List.append_toArray, List.cons_append, List.nil_append]
  go_enter Try.func44, Try.ntmps44
  go_wp2_with fail
  go_region_held3 (fun w' => w'.cell? ⟨Bt, 0, none⟩ = some (.pointer (some ⟨b, 0, none⟩)) ∧ w'.cell? ⟨Bs, 0, none⟩ = some (.int .i64 s.1) ∧ w'.cell? ⟨Bs, 1, none⟩ = some (.int .i64 s.2.1) ∧ w'.cell? ⟨Bs, 2, none⟩ = some (.int .i64 s.2.2) ∧ w'.cell? ⟨b, 0, none⟩ = some (.slice (some ⟨g, off, none⟩) n cap) ∧ w'.cell? ⟨g, off + i * 4, none⟩ = some (.int .i64 x.1) ∧ w'.cell? ⟨g, off + i * 4 + 1, none⟩ = some (.int .i64 x.2.1) ∧ w'.cell? ⟨g, off + i * 4 + 2, none⟩ = some (.int .i64 x.2.2) ∧ Below W.heap.size W w')
    (first | (go_split_ands; with_reducible exact ⟨keepc hb (by assumption), keepc hb (by assumption), keepc hb (by assumption), keepc hb (by assumption), keepc hb (by assumption), keepc hb (by assumption), keepc hb (by assumption), keepc hb (by assumption), belowT (by assumption) hb⟩) | exact ⟨h1, s0, s1, s2, h3, x0, x1, x2, Below.drew (Below.refl _ W)⟩ | go_keep)
    (first | (go_at_call 27; refine (K.out _).mono ?_; rintro e w6 ⟨rfl, hb⟩))
  all_goals go_wp2
  all_goals go_ret
  all_goals exact ⟨rfl, (by go_split_ands; repeat (first | with_reducible assumption | with_reducible exact Below.refl _ _ | with_reducible refine Below.drew ?_ | with_reducible refine belowT ?_ (by assumption)))⟩

set_option maxHeartbeats 4000000 in
set_option maxRecDepth 100000 in
theorem upTo_c {W : World} {b k : Nat} {L : List En} {G : Option Nat} {v : Value} (h : TkS W b k L G v) (s : Sp) (hs : s.I) (hR : s.R = true) :
    Calls Try.prog 28 #[.pointer (some ⟨b, 0, none⟩), s.v] W fun e w' => e = .returned (.int .i64 ((nu L s : Nat) : Int)) ∧ Below W.heap.size W w' := by
  obtain ⟨W2, hW2⟩ : ∃ W2, (W.alloc (.cells #[.pointer (some ⟨b, 0, none⟩)] 28)).alloc (.cells #[.int .i64 s.1, .int .i64 s.2.1, .int .i64 s.2.2] 33) = W2 := ⟨_, rfl⟩
  have hB : Below W.heap.size W W2 := hW2 ▸ bA' (bA' (Below.refl _ _) (Nat.le_refl _) _) (by simp) _
  have hb1 : W2.heap[W.heap.size]? = some (.cells #[.pointer (some ⟨b, 0, none⟩)] 28 (0, 0)) := by
    rw [← hW2, Below.heap_alloc _ _ _ (by simp)]
    exact World.alloc_heap_new W _
  have hb2 : W2.heap[W.heap.size + 1]? = some (.cells #[.int .i64 s.1, .int .i64 s.2.1, .int .i64 s.2.2] 33 (0, 0)) := by
    have := World.alloc_heap_new (W.alloc (.cells #[.pointer (some ⟨b, 0, none⟩)] 28)) (.cells #[.int .i64 s.1, .int .i64 s.2.1, .int .i64 s.2.2] 33)
    rw [World.size_alloc] at this
    rw [← hW2]
    exact this
  have h2 := h.below hB
  obtain ⟨pv, cv, hv, _, _⟩ := h.ents.slice
  have q1 : W2.cell? ⟨W.heap.size, 0, none⟩ = some (.pointer (some ⟨b, 0, none⟩)) := by unfold World.cell?; rw [hb1]; rfl
  have q3 : W2.cell? ⟨b, 0, none⟩ = some (.slice pv L.length cv) := by rw [← hv]; exact (cell_two h2.box).1
  have KS := search_c 44 #[.pointer (some ⟨W.heap.size + 1, 0, none⟩), .pointer (some ⟨W.heap.size, 0, none⟩)] L.length (nu L s) (fun i => decide (cmp s (gE L i).1 < 0)) W2 (enters_of Try.func44 (by kernel_rfl) rfl) (by have := h.room; omega) (nu_le h.rise hR) (fun i hi => nu_lt h.rise hR hi) (fun i i1 i2 => nu_ge h.rise hR i1 i2) (fun i W3 hb3 hi => by
    have h3 := h2.below hb3
    obtain ⟨g, off, cap, ev, eG, x0, x1, x2, _⟩ := entAt h3.ents hi
    obtain ⟨s0, s1, s2⟩ := cells3 hb2 hb3
    refine upToF_c b W.heap.size (W.heap.size + 1) g off L.length cap i s (gE L i).1 W3 hs (h.small _ (mem_gE hi)).1 (kc' hb3 q1) s0 s1 s2 ?_ x0 x1 x2 hi
    rw [← ev]
    exact (cell_two h3.box).1)
  rw [← hW2] at q1 q3
  have HK := Lib.hid KS
  have HW := Lib.hid hW2
  have HB := Lib.hid hB
  clear KS hb1 hb2 h2 h hs hR hW2 hB hv
  go_enter Try.func28, Try.ntmps28
  go_wp2_with fail
  rw [HW.out]
  refine HK.out.mono ?_
  rintro e w3 ⟨rfl, hb⟩
  have H3 := Lib.hid (bT' HB.out hb HB.out.size)
  clear hb
  go_wp2
  go_ret
  exact ⟨rfl, H3.out⟩
end Go.Proofs.Ytibphmddepfgjaa.Tr
