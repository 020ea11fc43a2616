/-
  track's Back and Free over this seat's translation. Conditions: those that each theorem states.
-/
import Derived.Test.YtibphmddepfgjaaT7K
namespace Go.Proofs.Ytibphmddepfgjaa.Tr
open Go.RowKit Go.Shelf Go.Lib Go.Sort

/-- What Back and Free come to: the things of what is gone, and the list that stays. -/
structure GoneS (W : World) (b k : Nat) (L' : List En) (G : Option Nat) (X : List Int) (e : Ending) (W' : World) : Prop where
  ret : ∃ p cap, e = .returned (.slice p X.length cap) ∧ InList cIn W' p X ∧ ∀ g off, p = some ⟨g, off, none⟩ → X ≠ [] → W.heap.size ≤ g
  ex : ∃ G' v', TkS W' b k L' G' v' ∧ ∀ y, G' = some y → G = some y
  lv : Leaves (Fp b G) W W'
theorem gone_end {W w5 w6 : World} {b k c5 : Nat} {L L' : List En} {G G6 : Option Nat} {v v6 : Value} {X : List Int} {p5 : Option Addr} (h : TkS W b k L G v) (hb5 : Below W.heap.size W w5) (hin : InList cIn w5 p5 X) (hfar : ∀ g off, p5 = some ⟨g, off, none⟩ → X ≠ [] → W.heap.size ≤ g)
    (hE : Ents w6 v6 L' G6) (hsub : ∀ y, G6 = some y → G = some y) (hlv : Leaves (fun y => G = some y) w5 w6) (hL : L'.Sublist L) :
    GoneS W b k L' G X (.returned (.slice p5 X.length c5)) (w6.setCell ⟨b, 0, none⟩ v6) ∧ w6.heap[b]? = some (.cells #[v, .int .i64 (k : Int)] 66 (0, 0)) := by
  have h5 := h.below hb5
  have hbl5 := h5.lt b (.inl rfl)
  have hbl := h.lt b (.inl rfl)
  have hbG : ¬ G = some b := fun e => h.ne b e rfl
  have hbox6 := (hlv.same b hbl5 hbG).trans h5.box
  refine ⟨⟨⟨p5, c5, rfl, ?_, hfar⟩, ⟨G6, v6, ⟨heap_setCell_same w6 b 0 _ _ v6 hbox6, hE.keep fun g e => heap_setCell_other w6 ⟨b, 0, none⟩ g _ (fun e2 => hbG (by rw [hsub g e, e2])), ⟨h.room.1, h.room.2.1, Nat.le_trans hL.length_le h.room.2.2⟩, h.rise.sub hL, fun e he => h.small e (hL.subset he)⟩, hsub⟩, ?_⟩, hbox6⟩
  · rcases hin with h0 | ⟨g, off, rfl, hc⟩
    · exact .inl h0
    · by_cases hX : X = []
      · exact .inl hX
      · refine .inr ⟨g, off, rfl, fun j u hu => ?_⟩
        have hg := hfar g off rfl hX
        have hcell := hc j u hu
        have hgl : g < w5.heap.size := World.block_lt_of_cell? _ _ hcell
        rw [← hcell]
        refine World.cell?_of_block ((heap_setCell_other w6 ⟨b, 0, none⟩ g _ (by show g ≠ b; omega)).trans (hlv.same g hgl fun e => ?_))
        have := h.ents.lt g e
        omega
  · refine ⟨hlv.os.trans hb5.os, hlv.tape.trans hb5.tape, hlv.output.trans hb5.output, Nat.le_trans hb5.size (by simpa using hlv.size), fun y hy hn => ?_⟩
    exact (heap_setCell_other w6 ⟨b, 0, none⟩ y _ fun e => hn (.inl e)).trans ((hlv.same y (Nat.lt_of_lt_of_le hy hb5.size) fun e => hn (.inr e)).trans (hb5.block y hy))
theorem gone_none {W W' : World} {b k : Nat} {L : List En} {G : Option Nat} {v : Value} (h : TkS W b k L G v) (hb : Below W.heap.size W W') : GoneS W b k L G [] (.returned (.slice none 0 0)) W' :=
  ⟨⟨none, 0, rfl, .inl rfl, fun _ _ _ hX => absurd rfl hX⟩, ⟨G, v, h.below hb, fun _ e => e⟩, Leaves.of hb⟩
theorem back_parts {L : List En} {s : Sp} (h : Rise L) (hs : s.R = true) : backL L s = L.take (nu L s) ∧ backX L s = (L.drop (nu L s)).reverse.map (·.2) := by
  have h2 := up_split h hs
  unfold backL backX nu
  rw [if_pos hs, if_pos hs]
  obtain ⟨A, hA⟩ : ∃ A, upL L s = A := ⟨_, rfl⟩
  obtain ⟨B, hB⟩ : ∃ B, moreL L s = B := ⟨_, rfl⟩
  have hA2 : lessL L s ++ levL L s = A := hA
  rw [hA, hB] at h2
  rw [hA, hA2, hB, h2]
  simp
theorem free_parts {L : List En} {s : Sp} (h : Rise L) (hs : s.R = true) : freeL L s = L.drop (nb L s) ∧ freeX L s = (L.take (nb L s)).map (·.2) := by
  have h2 := less_split h hs
  unfold freeL freeX nb
  rw [if_pos hs, if_pos hs]
  obtain ⟨A, hA⟩ : ∃ A, lessL L s = A := ⟨_, rfl⟩
  obtain ⟨B, hB⟩ : ∃ B, levL L s ++ moreL L s = B := ⟨_, rfl⟩
  rw [hA, hB] at h2
  rw [hA, hB, h2]
  simp

set_option maxHeartbeats 16000000 in
set_option maxRecDepth 100000 in
theorem backT_c {W : World} {b k : Nat} {L : List En} {G : Option Nat} {v : Value} (h : TkS W b k L G v) (s : Sp) (hs : s.I) :
    Calls Try.prog 13 #[.pointer (some ⟨b, 0, none⟩), s.v] W fun e w' => GoneS W b k (backL L s) G (backX L s) e w' := by
  have mixed : Try.prog.follows .mixedOrders = true := by kernel_rfl
  obtain ⟨W1, hW1⟩ : ∃ W1, W.alloc (.cells #[.int .i64 s.1, .int .i64 s.2.1, .int .i64 s.2.2] 33) = W1 := ⟨_, rfl⟩
  have hb1 : Below W.heap.size W W1 := hW1 ▸ bA' (Below.refl _ _) (Nat.le_refl _) _
  have hbx : W1.heap[W.heap.size]? = some (.cells #[.int .i64 s.1, .int .i64 s.2.1, .int .i64 s.2.2] 33 (0, 0)) := hW1 ▸ World.alloc_heap_new W _
  have KM := Lib.hid (may_c (some ⟨b, 0, none⟩) s hs)
  have HO := Lib.hid (And.intro hb1 hbx)
  have HW := Lib.hid hW1
  have HH := Lib.hid (And.intro h hs)
  obtain ⟨x0, x1, x2⟩ := cells3 hbx (Below.refl _ _)
  by_cases hr : s.R = true
  · have KM2 := KM.out
    rw [show ((some (⟨b, 0, none⟩ : Addr)).isSome && s.R) = true from by rw [hr]; rfl] at KM2
    replace KM := Lib.hid KM2
    have KB := Lib.hid (fun W' (hb : Below W.heap.size W W') => upTo_c (h.below hb) s hs hr)
    have hle := nu_le h.rise hr
    have hroom := h.room
    obtain ⟨hp1, hp2⟩ := back_parts h.rise hr
    rw [hp1, hp2]
    obtain ⟨n, hn⟩ : ∃ n, nu L s = n := ⟨_, rfl⟩
    rw [hn] at hle KB ⊢
    obtain ⟨X, hX⟩ : ∃ X, (L.drop n).reverse.map (·.2) = X := ⟨_, rfl⟩
    rw [hX]
    have HX := Lib.hid hX
    clear hX
    obtain ⟨pv, cv, hv, hfl, hlc⟩ := h.ents.slice
    obtain ⟨l, hll⟩ : ∃ l, L.length = l := ⟨_, rfl⟩
    obtain ⟨m, hm⟩ : ∃ m, l - n = m := ⟨_, rfl⟩
    obtain ⟨qv, hq⟩ : ∃ q : Option Addr, (if cv = n then pv else pv.map (fun x => x.add (n * 4))) = q := ⟨_, rfl⟩
    have HL := Lib.hid (And.intro hv (And.intro hll (And.intro (show (L.drop n).length = m by rw [List.length_drop, hll, hm]) hle)))
    rw [hll] at hle hlc hroom
    have hnz : (n : Int) ≤ (l : Int) := by omega
    have HSUB := Lib.hid (fun W' (hb : Below W.heap.size W W') (B : Nat) (hB : W'.heap.size ≤ B) => hq ▸ ents_sub (n := n) (h.below hb).ents hv hB)
    clear KM2 hb1 hbx hW1 h hs hr hn hp1 hp2 hfl hv hll
    go_enter Try.func13, Try.ntmps13
    go_wp2_with fail
    rw [HW.out]
    clear HW
    refine (KM.out _).mono ?_
    rintro e w2 ⟨rfl, hb2⟩
    have HB2 := Lib.hid (bT' HO.out.1 hb2 HO.out.1.size)
    obtain ⟨x0, x1, x2⟩ := cells3 HO.out.2 hb2
    clear hb2
    go_wp2_with fail
    refine (KB.out _ HB2.out).mono ?_
    rintro e w3 ⟨rfl, hb3⟩
    have HB3 := Lib.hid (bT' HB2.out hb3 HB2.out.size)
    have h3 := HH.out.1.below HB3.out
    have c0 : w3.cell? ⟨b, 0, none⟩ = some (.slice pv l cv) := by rw [← HL.out.2.1, ← HL.out.1]; exact (cell_two h3.box).1
    clear hb3 x0 x1 x2 h3
    go_wp2_with fail
    refine (backf_c _ _ _ _).mono ?_
    rintro e w4 ⟨rfl, hw4⟩
    have hb4 : Below w3.heap.size w3 w4 := hw4 ▸ bA' (Below.refl _ _) (Nat.le_refl _) _
    have hbox4 : w4.heap[w3.heap.size]? = some (.cells #[.slice qv (L.drop n).length (cv - n)] 64 (0, 0)) := by rw [HL.out.2.2.1, hw4]; exact World.alloc_heap_new w3 _
    have hsz4 : w4.heap.size = w3.heap.size + 1 := by rw [hw4, World.size_alloc]
    have KT := things_c 45 #[.pointer (some ⟨w3.heap.size, 0, none⟩)] (L.drop n).reverse (fun k => ((L.drop n).length : Int) - 1 - (k : Int)) (by rw [List.length_reverse, HL.out.2.2.1]; omega) w4 eg_backf
      (backf_seq w3.heap.size (cv - n) qv (L.drop n) (fun b o => o.isCells = true ∧ b < w4.heap.size) w4 (by rw [HL.out.2.2.1]; omega) hbox4 ⟨rfl, by omega⟩ ((HSUB.out w3 HB3.out _ (Nat.le_refl _)).keep hb4 (by omega)))
    have KTH := Lib.hid KT
    have HB4 := Lib.hid (bT' HB3.out hb4 HB3.out.size)
    clear KT hbox4 hsz4 hb4 hw4 c0
    go_wp2_with fail
    refine KTH.out.mono ?_
    rintro e w5 ⟨v5, rfl, hrow, hb5⟩
    have hrow2 : w5.ownsRow w4.heap.size 3 1 v5 X.length (X.map fun x => Value.int .i64 x) := by
      rw [← HX.out, List.length_map, List.map_map]
      exact hrow
    obtain ⟨p5, c5, rfl, hin, hfar⟩ := ints_in hrow2
    have hB5 := bT' HB4.out hb5 HB4.out.size
    have hbx5 := (HH.out.1.below hB5).box
    rw [HL.out.1, HL.out.2.1] at hbx5
    obtain ⟨c0, c1, _⟩ := cell_two hbx5
    have KD := Lib.hid (fun W' (hb : Below w5.heap.size w5 W') => delete_c (HH.out.1.below (bT' hB5 hb hB5.size)).ents n HL.out.2.2.2 (by have := HL.out.2.1; omega))
    rw [HL.out.1, HL.out.2.1] at KD
    have H5 := Lib.hid (And.intro hB5 (And.intro hin (show ∀ g off, p5 = some ⟨g, off, none⟩ → X ≠ [] → W.heap.size ≤ g from fun g off e h0 => Nat.le_trans HB4.out.size (hfar g off e h0))))
    clear hrow hrow2 hin hfar hb5 hB5 hbx5 KTH
    have cd : w5.drew.cell? ⟨b, 0, none⟩ = some (.slice pv l cv) := c0
    go_wp2_with fail
    go_region_law (first
      | (go_simp; go_at_call 31; refine (KD.out _ (by first | exact Below.refl _ _ | exact Below.drew (Below.refl _ _))).mono ?_; rintro e w6 ⟨p6, c6, rfl, hE6, hlv6⟩; have HZ := Lib.hid (gone_end (c5 := c5) HH.out.1 H5.out.1 H5.out.2.1 H5.out.2.2 hE6 (fun _ e => e) ⟨hlv6.os, hlv6.tape, hlv6.output, hlv6.size, hlv6.same⟩ (List.take_sublist n L)); have hbx6 := HZ.out.2; rw [HL.out.1, HL.out.2.1] at hbx6; obtain ⟨d0, d1, _⟩ := cell_two hbx6; have d2 := frozen_of_row _ b 0 _ _ hbx6; clear hbx6 hE6 hlv6))
    all_goals go_wp2
    all_goals go_ret
    all_goals exact HZ.out.1
  · have hr2 : s.R = false := Bool.eq_false_iff.2 hr
    have KM2 := KM.out
    rw [show ((some (⟨b, 0, none⟩ : Addr)).isSome && s.R) = false from by rw [hr2]; rfl] at KM2
    replace KM := Lib.hid KM2
    have e1 : backL L s = L := by unfold backL; rw [if_neg hr]
    have e2 : backX L s = [] := by unfold backX; rw [if_neg hr]
    rw [e1, e2]
    clear KM2 hb1 hbx hW1 h hs hr hr2 e1 e2
    go_enter Try.func13, Try.ntmps13
    go_wp2_with fail
    rw [HW.out]
    clear HW
    refine (KM.out _).mono ?_
    rintro e w2 ⟨rfl, hb2⟩
    have HB2 := Lib.hid (bT' HO.out.1 hb2 HO.out.1.size)
    clear hb2 x0 x1 x2
    go_wp2
    go_ret
    exact gone_none HH.out.1 HB2.out
end Go.Proofs.Ytibphmddepfgjaa.Tr
