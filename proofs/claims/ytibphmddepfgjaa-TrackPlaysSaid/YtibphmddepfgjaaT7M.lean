/-
  track's Free over this seat's translation. Conditions: those that each theorem states.
-/
import Derived.Test.YtibphmddepfgjaaT7L
namespace Go.Proofs.Ytibphmddepfgjaa.Tr
open Go.RowKit Go.Shelf Go.Lib Go.Sort

theorem clear_any {W : World} {g o n : Nat} (c ty : Nat) {cur : Array Value} (hg : W.heap[g]? = some (.cells cur 71 (0, 0))) (hfit : o + n * 4 ≤ cur.size) :
    ∃ W', (Builtin.clear_ #[64] ty #[.slice (some ⟨g, o, none⟩) n c]).run Try.prog W = .ok (.tuple #[]) W' ∧ Clr g o n cur W W' := by
  by_cases hn : 0 < n
  · exact clear_ents c ty hg hfit hn
  · obtain rfl : n = 0 := by omega
    exact ⟨W, by simp [Builtin.clear_, run_underlying Try.underlying64], ⟨cur, hg, rfl, fun _ _ => rfl⟩, fun _ _ => rfl, rfl, rfl, rfl, rfl⟩
/-- What is ahead let go of. -/
theorem ents_from {W W' : World} {g off cap n : Nat} {cur : Array Value} {L : List En} {q : Option Addr} (hn : n ≤ L.length) (h1 : L.length ≤ cap) (h3 : cur.size = off + cap * 4) (h4 : ∀ (j : Nat) (u : Value), (L.flatMap cE)[j]? = some u → cur[off + j]? = some u)
    (hq : (if cap = n then (some ⟨g, off, none⟩ : Option Addr) else some ⟨g, off + n * 4, none⟩) = q) (hc : Clr g off n cur W W') : ∃ G', Ents W' (.slice q (L.length - n) (cap - n)) (L.drop n) G' ∧ ∀ y, G' = some y → some g = some y := by
  by_cases hcn : cap = n
  · have e1 : L.length - n = 0 := by omega
    have e2 : cap - n = 0 := by omega
    exact ⟨none, .inl ⟨q, by rw [e1, e2], List.drop_eq_nil_of_le (by omega), rfl⟩, fun y e => by cases e⟩
  · rw [if_neg hcn] at hq
    obtain ⟨cur', q1, q2, q3⟩ := hc.row
    refine ⟨some g, .inr ⟨g, off + n * 4, cap - n, cur', by rw [← hq, List.length_drop], rfl, by omega, by rw [List.length_drop]; omega, q1, by omega, fun j u hu => ?_⟩, fun y e => e⟩
    rw [q3 _ (.inr (by omega)), Nat.add_assoc]
    refine h4 _ u ?_
    rw [← _root_.Go.Proofs.Ytibphmddepfgjaa.flat_drop cE_len, List.getElem?_drop] at hu
    exact hu

set_option maxHeartbeats 16000000 in
set_option maxRecDepth 100000 in
theorem freeT_c {W : World} {b k : Nat} {L : List En} {G : Option Nat} {v : Value} (h : TkS W b k L G v) (s : Sp) (hs : s.I) :
    Calls Try.prog 21 #[.pointer (some ⟨b, 0, none⟩), s.v] W fun e w' => GoneS W b k (freeL L s) G (freeX L s) e w' := by
  have mixed : Try.prog.follows .mixedOrders = true := by kernel_rfl
  obtain ⟨W1, hW1⟩ : ∃ W1, W.alloc (.cells #[.int .i64 s.1, .int .i64 s.2.1, .int .i64 s.2.2] 33) = W1 := ⟨_, rfl⟩
  have hb1 : Below W.heap.size W W1 := hW1 ▸ bA' (Below.refl _ _) (Nat.le_refl _) _
  have hbx : W1.heap[W.heap.size]? = some (.cells #[.int .i64 s.1, .int .i64 s.2.1, .int .i64 s.2.2] 33 (0, 0)) := hW1 ▸ World.alloc_heap_new W _
  have KM := Lib.hid (may_c (some ⟨b, 0, none⟩) s hs)
  have HO := Lib.hid (And.intro hb1 hbx)
  have HW := Lib.hid hW1
  have HH := Lib.hid (And.intro h hs)
  obtain ⟨x0, x1, x2⟩ := cells3 hbx (Below.refl _ _)
  by_cases hr : s.R = true
  · have KM2 := KM.out
    rw [show ((some (⟨b, 0, none⟩ : Addr)).isSome && s.R) = true from by rw [hr]; rfl] at KM2
    replace KM := Lib.hid KM2
    have KB := Lib.hid (fun W' (hb : Below W.heap.size W W') => below_c (h.below hb) s hs hr)
    have hle := nb_le h.rise hr
    have hroom := h.room
    obtain ⟨hp1, hp2⟩ := free_parts h.rise hr
    rw [hp1, hp2]
    obtain ⟨n, hn⟩ : ∃ n, nb L s = n := ⟨_, rfl⟩
    rw [hn] at hle KB ⊢
    obtain ⟨X, hX⟩ : ∃ X, (L.take n).map (·.2) = X := ⟨_, rfl⟩
    rw [hX]
    have HX := Lib.hid hX
    clear hX
    rcases h.ents with ⟨p, hv, hL0, hG0⟩ | ⟨g, off, cap, cur, hv, hG, h0, h1, h2, h3, h4⟩
    · subst hL0
      have hn0 : n = 0 := by simpa using hle
      subst hn0
      have hX0 : X = [] := by rw [← HX.out]; rfl
      subst hX0
      have HV := Lib.hid hv
      clear KM2 hb1 hbx hW1 h hs hr hn hp1 hp2 hv hle HX
      go_enter Try.func21, Try.ntmps21
      go_wp2_with fail
      rw [HW.out]
      clear HW
      refine (KM.out _).mono ?_
      rintro e w2 ⟨rfl, hb2⟩
      have HB2 := Lib.hid (bT' HO.out.1 hb2 HO.out.1.size)
      obtain ⟨x0, x1, x2⟩ := cells3 HO.out.2 hb2
      clear hb2
      go_wp2_with fail
      refine (KB.out _ HB2.out).mono ?_
      rintro e w3 ⟨rfl, hb3⟩
      have HB3 := Lib.hid (bT' HB2.out hb3 HB2.out.size)
      have c0 : w3.cell? ⟨b, 0, none⟩ = some (.slice p 0 0) := by rw [← HV.out]; exact (cell_two (HH.out.1.below HB3.out).box).1
      clear hb3 x0 x1 x2
      go_wp2_with fail
      refine (allsf_c _ _ _ _).mono ?_
      rintro e w4 ⟨rfl, hw4⟩
      have hb4 : Below w3.heap.size w3 w4 := hw4 ▸ bA' (Below.refl _ _) (Nat.le_refl _) _
      have hbox4 : w4.heap[w3.heap.size]? = some (.cells #[.slice p ([] : List En).length 0] 64 (0, 0)) := by rw [hw4]; exact World.alloc_heap_new w3 _
      have KTH := Lib.hid (things_c 51 #[.pointer (some ⟨w3.heap.size, 0, none⟩)] [] (fun k => (k : Int)) (by decide) w4 eg_allsf
        (allsf_seq w3.heap.size 0 p [] (fun b o => o.isCells = true ∧ b < w4.heap.size) w4 (by decide) hbox4 (.inl rfl)))
      have HB4 := Lib.hid (bT' HB3.out hb4 HB3.out.size)
      clear hbox4 hb4 hw4 c0
      go_wp2_with fail
      refine KTH.out.mono ?_
      rintro e w5 ⟨v5, rfl, hrow, hb5⟩
      obtain ⟨p5, c5, rfl, hin, hfar⟩ := ints_in (X := []) hrow
      have hB5 := bT' HB4.out hb5 HB4.out.size
      have hbx5 := (HH.out.1.below hB5).box
      rw [HV.out] at hbx5
      obtain ⟨c0, c1, _⟩ := cell_two hbx5
      have f0 := frozen_of_row _ b 0 _ _ hbx5
      have qcl : (Builtin.clear_ #[64] 0 #[.slice p 0 0]).run Try.prog w5 = .ok (.tuple #[]) w5 := by
        cases p <;> simp [Builtin.clear_, run_underlying Try.underlying64]
      have HZ := Lib.hid (gone_end (c5 := c5) (v6 := .slice p 0 0) HH.out.1 hB5 hin (fun g off e h0 => Nat.le_trans HB4.out.size (hfar g off e h0)) (.inl ⟨p, rfl, rfl, rfl⟩ : Ents w5 (.slice p 0 0) [] none) (fun y e => by cases e) (Leaves.of (Below.refl _ _)) (List.Sublist.refl [])).1
      clear hrow hin hfar hb5 hB5 hbx5 KTH
      go_wp2
      go_ret
      exact HZ.out
    · have hgb := h.ne g hG
      obtain ⟨l, hll⟩ : ∃ l, L.length = l := ⟨_, rfl⟩
      obtain ⟨m, hm⟩ : ∃ m, l - n = m := ⟨_, rfl⟩
      obtain ⟨qv, hq⟩ : ∃ q : Option Addr, (if cap = n then (some ⟨g, off, none⟩ : Option Addr) else some ⟨g, off + n * 4, none⟩) = q := ⟨_, rfl⟩
      have HL := Lib.hid (And.intro hv (And.intro hll (And.intro (show (L.take n).length = n by rw [List.length_take]; omega) hle)))
      have HE := Lib.hid (And.intro hG (And.intro h1 (And.intro h2 (And.intro h3 (And.intro h4 hq)))))
      rw [hll] at hle hroom h1 hv
      have hnz : (n : Int) ≤ (l : Int) := by omega
      have hncap : n ≤ cap := by omega
      clear KM2 hb1 hbx hW1 h hs hr hn hp1 hp2 hll h2 h3 h4
      go_enter Try.func21, Try.ntmps21
      go_wp2_with fail
      rw [HW.out]
      clear HW
      refine (KM.out _).mono ?_
      rintro e w2 ⟨rfl, hb2⟩
      have HB2 := Lib.hid (bT' HO.out.1 hb2 HO.out.1.size)
      obtain ⟨x0, x1, x2⟩ := cells3 HO.out.2 hb2
      clear hb2
      go_wp2_with fail
      refine (KB.out _ HB2.out).mono ?_
      rintro e w3 ⟨rfl, hb3⟩
      have HB3 := Lib.hid (bT' HB2.out hb3 HB2.out.size)
      have c0 : w3.cell? ⟨b, 0, none⟩ = some (.slice (some ⟨g, off, none⟩) l cap) := by rw [← hv]; exact (cell_two (HH.out.1.below HB3.out).box).1
      clear hb3 x0 x1 x2
      go_wp2_with fail
      refine (allsf_c _ _ _ _).mono ?_
      rintro e w4 ⟨rfl, hw4⟩
      have hb4 : Below w3.heap.size w3 w4 := hw4 ▸ bA' (Below.refl _ _) (Nat.le_refl _) _
      have hbox4 : w4.heap[w3.heap.size]? = some (.cells #[.slice (some ⟨g, off, none⟩) (L.take n).length cap] 64 (0, 0)) := by rw [HL.out.2.2.1, hw4]; exact World.alloc_heap_new w3 _
      have hsz4 : w4.heap.size = w3.heap.size + 1 := by rw [hw4, World.size_alloc]
      have KTH := Lib.hid (things_c 51 #[.pointer (some ⟨w3.heap.size, 0, none⟩)] (L.take n) (fun k => (k : Int)) (by rw [HL.out.2.2.1]; omega) w4 eg_allsf
        (allsf_seq w3.heap.size cap (some ⟨g, off, none⟩) (L.take n) (fun b o => o.isCells = true ∧ b < w4.heap.size) w4 (by rw [HL.out.2.2.1]; omega) hbox4 ((ents_pre (n := n) (HH.out.1.below HB3.out).ents HL.out.1 (Nat.le_refl _)).keep hb4 (by omega))))
      have HB4 := Lib.hid (bT' HB3.out hb4 HB3.out.size)
      clear hbox4 hsz4 hb4 hw4 c0
      go_wp2_with fail
      refine KTH.out.mono ?_
      rintro e w5 ⟨v5, rfl, hrow, hb5⟩
      have hrow2 : w5.ownsRow w4.heap.size 3 1 v5 X.length (X.map fun x => Value.int .i64 x) := by
        rw [← HX.out, List.length_map, List.map_map]
        exact hrow
      obtain ⟨p5, c5, rfl, hin, hfar⟩ := ints_in hrow2
      have hB5 := bT' HB4.out hb5 HB4.out.size
      have hbx5 := (HH.out.1.below hB5).box
      rw [hv] at hbx5
      obtain ⟨c0, c1, _⟩ := cell_two hbx5
      have hg5 := kbE HE.out.2.2.1 hB5
      obtain ⟨W6, q1, q2⟩ := clear_any (W := w5) (g := g) (o := off) (n := n) cap 0 hg5 (by have := HE.out.2.2.2.1; omega)
      obtain ⟨G6, hE6, hsub⟩ := ents_from (L := L) HL.out.2.2.2 HE.out.2.1 HE.out.2.2.2.1 HE.out.2.2.2.2.1 HE.out.2.2.2.2.2 q2
      rw [HL.out.2.1, hm] at hE6
      have hlv6 : Leaves (fun y => G = some y) w5 W6 := ⟨q2.os, q2.tape, q2.output, by rw [q2.size]; exact Nat.le_refl _, fun y hy hn => q2.block y fun e => hn (by rw [HE.out.1, e])⟩
      obtain ⟨hz, hbx6⟩ := gone_end (c5 := c5) HH.out.1 hB5 hin (fun g off e h0 => Nat.le_trans HB4.out.size (hfar g off e h0)) hE6 (fun y e => by rw [HE.out.1]; exact hsub y e) hlv6 (List.drop_sublist n L)
      rw [hv] at hbx6
      obtain ⟨d0, d1, _⟩ := cell_two hbx6
      have d2 := frozen_of_row _ b 0 _ _ hbx6
      have HZ := Lib.hid hz
      clear hrow hrow2 hin hfar hb5 hB5 hbx5 KTH hg5 q2 hE6 hsub hlv6 hz hbx6 h0 hgb
      go_wp2
      all_goals go_ret
      all_goals exact HZ.out
  · have hr2 : s.R = false := Bool.eq_false_iff.2 hr
    have KM2 := KM.out
    rw [show ((some (⟨b, 0, none⟩ : Addr)).isSome && s.R) = false from by rw [hr2]; rfl] at KM2
    replace KM := Lib.hid KM2
    have e1 : freeL L s = L := by unfold freeL; rw [if_neg hr]
    have e2 : freeX L s = [] := by unfold freeX; rw [if_neg hr]
    rw [e1, e2]
    clear KM2 hb1 hbx hW1 h hs hr hr2 e1 e2
    go_enter Try.func21, Try.ntmps21
    go_wp2_with fail
    rw [HW.out]
    clear HW
    refine (KM.out _).mono ?_
    rintro e w2 ⟨rfl, hb2⟩
    have HB2 := Lib.hid (bT' HO.out.1 hb2 HO.out.1.size)
    clear hb2 x0 x1 x2
    go_wp2
    go_ret
    exact gone_none HH.out.1 HB2.out
end Go.Proofs.Ytibphmddepfgjaa.Tr
