/-
  What a nil track answers, over this seat's translation. Conditions: those that each theorem states.
-/
import Derived.Test.YtibphmddepfgjaaT7N
namespace Go.Proofs.Ytibphmddepfgjaa.Tr
open Go.RowKit Go.Shelf Go.Lib Go.Sort

set_option maxHeartbeats 4000000 in
set_option maxRecDepth 100000 in
theorem putNil_c (s : Sp) (hs : s.I) (x : Int) (W : World) : Calls Try.prog 10 #[.pointer none, s.v, .int .i64 x] W fun e w' => e = .returned (.int .i64 1) ∧ Below W.heap.size W w' := by
  have mixed : Try.prog.follows .mixedOrders = true := by kernel_rfl
  obtain ⟨W1, hW1⟩ : ∃ W1, W.alloc (.cells #[.int .i64 s.1, .int .i64 s.2.1, .int .i64 s.2.2] 33) = W1 := ⟨_, rfl⟩
  have hb1 : Below W.heap.size W W1 := hW1 ▸ bA' (Below.refl _ _) (Nat.le_refl _) _
  have hbx : W1.heap[W.heap.size]? = some (.cells #[.int .i64 s.1, .int .i64 s.2.1, .int .i64 s.2.2] 33 (0, 0)) := hW1 ▸ World.alloc_heap_new W _
  have KM := Lib.hid (may_c none s hs)
  have HO := Lib.hid hb1
  have HW := Lib.hid hW1
  obtain ⟨x0, x1, x2⟩ := cells3 hbx (Below.refl _ _)
  clear hb1 hbx hW1 hs
  go_enter Try.func10, Try.ntmps10
  go_wp2_with fail
  rw [HW.out]
  clear HW
  go_region_with (first | (go_at_call 25; refine (KM.out _).mono ?_; rintro e w6 ⟨rfl, hb⟩))
  all_goals have HB := Lib.hid (show Below W1.heap.size W1 w6 from belowT (by repeat (first | with_reducible exact Below.refl _ _ | with_reducible refine Below.drew ?_ | with_reducible refine belowN ?_ _)) hb)
  all_goals clear hb x0 x1 x2
  all_goals
    go_wp2
    go_ret
    exact ⟨rfl, bT' HO.out HB.out HO.out.size⟩
set_option maxHeartbeats 4000000 in
set_option maxRecDepth 100000 in
theorem setNil_c (s : Sp) (hs : s.I) (x : Int) (W : World) : Calls Try.prog 19 #[.pointer none, s.v, .int .i64 x] W fun e w' => e = .returned (.bool false) ∧ Below W.heap.size W w' := by
  have mixed : Try.prog.follows .mixedOrders = true := by kernel_rfl
  obtain ⟨W1, hW1⟩ : ∃ W1, W.alloc (.cells #[.int .i64 s.1, .int .i64 s.2.1, .int .i64 s.2.2] 33) = W1 := ⟨_, rfl⟩
  have hb1 : Below W.heap.size W W1 := hW1 ▸ bA' (Below.refl _ _) (Nat.le_refl _) _
  have hbx : W1.heap[W.heap.size]? = some (.cells #[.int .i64 s.1, .int .i64 s.2.1, .int .i64 s.2.2] 33 (0, 0)) := hW1 ▸ World.alloc_heap_new W _
  have KM := Lib.hid (may_c none s hs)
  have HO := Lib.hid hb1
  have HW := Lib.hid hW1
  obtain ⟨x0, x1, x2⟩ := cells3 hbx (Below.refl _ _)
  clear hb1 hbx hW1 hs
  go_enter Try.func19, Try.ntmps19
  go_wp2_with fail
  rw [HW.out]
  clear HW
  refine (KM.out _).mono ?_
  rintro e w2 ⟨rfl, hb2⟩
  have HB2 := Lib.hid (bT' HO.out hb2 HO.out.size)
  clear hb2 x0 x1 x2
  go_wp2
  go_ret
  exact ⟨rfl, HB2.out⟩
set_option maxHeartbeats 4000000 in
set_option maxRecDepth 100000 in
theorem backNil_c (s : Sp) (hs : s.I) (W : World) : Calls Try.prog 13 #[.pointer none, s.v] W fun e w' => (∃ p c, e = .returned (.slice p 0 c)) ∧ Below W.heap.size W w' := by
  have mixed : Try.prog.follows .mixedOrders = true := by kernel_rfl
  obtain ⟨W1, hW1⟩ : ∃ W1, W.alloc (.cells #[.int .i64 s.1, .int .i64 s.2.1, .int .i64 s.2.2] 33) = W1 := ⟨_, rfl⟩
  have hb1 : Below W.heap.size W W1 := hW1 ▸ bA' (Below.refl _ _) (Nat.le_refl _) _
  have hbx : W1.heap[W.heap.size]? = some (.cells #[.int .i64 s.1, .int .i64 s.2.1, .int .i64 s.2.2] 33 (0, 0)) := hW1 ▸ World.alloc_heap_new W _
  have KM := Lib.hid (may_c none s hs)
  have HO := Lib.hid hb1
  have HW := Lib.hid hW1
  obtain ⟨x0, x1, x2⟩ := cells3 hbx (Below.refl _ _)
  clear hb1 hbx hW1 hs
  go_enter Try.func13, Try.ntmps13
  go_wp2_with fail
  rw [HW.out]
  clear HW
  refine (KM.out _).mono ?_
  rintro e w2 ⟨rfl, hb2⟩
  have HB2 := Lib.hid (bT' HO.out hb2 HO.out.size)
  clear hb2 x0 x1 x2
  go_wp2
  go_ret
  exact ⟨⟨none, 0, rfl⟩, HB2.out⟩
set_option maxHeartbeats 4000000 in
set_option maxRecDepth 100000 in
theorem freeNil_c (s : Sp) (hs : s.I) (W : World) : Calls Try.prog 21 #[.pointer none, s.v] W fun e w' => (∃ p c, e = .returned (.slice p 0 c)) ∧ Below W.heap.size W w' := by
  have mixed : Try.prog.follows .mixedOrders = true := by kernel_rfl
  obtain ⟨W1, hW1⟩ : ∃ W1, W.alloc (.cells #[.int .i64 s.1, .int .i64 s.2.1, .int .i64 s.2.2] 33) = W1 := ⟨_, rfl⟩
  have hb1 : Below W.heap.size W W1 := hW1 ▸ bA' (Below.refl _ _) (Nat.le_refl _) _
  have hbx : W1.heap[W.heap.size]? = some (.cells #[.int .i64 s.1, .int .i64 s.2.1, .int .i64 s.2.2] 33 (0, 0)) := hW1 ▸ World.alloc_heap_new W _
  have KM := Lib.hid (may_c none s hs)
  have HO := Lib.hid hb1
  have HW := Lib.hid hW1
  obtain ⟨x0, x1, x2⟩ := cells3 hbx (Below.refl _ _)
  clear hb1 hbx hW1 hs
  go_enter Try.func21, Try.ntmps21
  go_wp2_with fail
  rw [HW.out]
  clear HW
  refine (KM.out _).mono ?_
  rintro e w2 ⟨rfl, hb2⟩
  have HB2 := Lib.hid (bT' HO.out hb2 HO.out.size)
  clear hb2 x0 x1 x2
  go_wp2
  go_ret
  exact ⟨⟨none, 0, rfl⟩, HB2.out⟩
set_option maxHeartbeats 16000000 in
set_option maxRecDepth 100000 in
theorem atNil_c (s : Sp) (hs : s.I) (W : World) : Calls Try.prog 20 #[.pointer none, s.v] W fun e w' => e = .returned (.tuple #[stV 0 0 0, .int .i64 0, .bool false]) ∧ Below W.heap.size W w' := by
  have mixed : Try.prog.follows .mixedOrders = true := by kernel_rfl
  obtain ⟨W1, hW1⟩ : ∃ W1, (W.alloc (.cells #[.int .i64 s.1, .int .i64 s.2.1, .int .i64 s.2.2] 33)).alloc (.cells #[.int .i64 0, .int .i64 0, .int .i64 0] 33) = W1 := ⟨_, rfl⟩
  have hb1 : Below W.heap.size W W1 := hW1 ▸ bA' (bA' (Below.refl _ _) (Nat.le_refl _) _) (by simp) _
  have hbx : W1.heap[W.heap.size]? = some (.cells #[.int .i64 s.1, .int .i64 s.2.1, .int .i64 s.2.2] 33 (0, 0)) := by
    rw [← hW1, Below.heap_alloc _ _ _ (by simp)]
    exact World.alloc_heap_new W _
  have hbr : W1.heap[W.heap.size + 1]? = some (.cells #[.int .i64 0, .int .i64 0, .int .i64 0] 33 (0, 0)) := by
    have := World.alloc_heap_new (W.alloc (.cells #[.int .i64 s.1, .int .i64 s.2.1, .int .i64 s.2.2] 33)) (.cells #[.int .i64 0, .int .i64 0, .int .i64 0] 33)
    rw [World.size_alloc] at this
    rw [← hW1]
    exact this
  have KM := Lib.hid (may_c none s hs)
  have HO := Lib.hid (And.intro hb1 (And.intro hbx hbr))
  have HW := Lib.hid hW1
  obtain ⟨x0, x1, x2⟩ := cells3 hbx (Below.refl _ _)
  clear hb1 hbx hbr hW1 hs
  go_enter Try.func20, Try.ntmps20
  go_wp2_with fail
  rw [HW.out]
  clear HW
  refine (KM.out _).mono ?_
  rintro e w3 ⟨rfl, hb3⟩
  have HB3 := Lib.hid (And.intro (bT' HO.out.1 hb3 HO.out.1.size) (kbE HO.out.2.2 hb3))
  clear hb3 x0 x1 x2
  go_wp2_with fail
  obtain ⟨V, hV⟩ : ∃ V, w3.alloc (.cells #[.int .i64 0, .int .i64 0, .int .i64 0, .int .i64 0] 71) = V := ⟨_, rfl⟩
  rw [hV]
  obtain ⟨lb, hlb⟩ : ∃ lb, w3.heap.size = lb := ⟨_, rfl⟩
  obtain ⟨r, hr⟩ : ∃ r, W.heap.size + 1 = r := ⟨_, rfl⟩
  rw [hlb, hr]
  have hbV : Below w3.heap.size w3 V := hV ▸ bA' (Below.refl _ _) (Nat.le_refl _) _
  have hyb : V.heap[lb]? = some (.cells #[.int .i64 0, .int .i64 0, .int .i64 0, .int .i64 0] 71 (0, 0)) := by rw [← hV, ← hlb]; exact World.alloc_heap_new w3 _
  have hrb := kbE HB3.out.2 hbV
  rw [hr] at hrb
  have hne : lb ≠ r := by
    rintro rfl
    have := hyb.symm.trans hrb
    simp at this
  have hne2 : r ≠ lb := Ne.symm hne
  have HZ := Lib.hid (And.intro (bT' HB3.out.1 hbV HB3.out.1.size) (And.intro hrb (show W.heap.size ≤ r by omega)))
  skip
  obtain ⟨z0, z1, z2⟩ := cells3 hrb (Below.refl _ _)
  have f0 := frozen_of_row _ r 0 _ _ hrb
  have f1 := frozen_of_row _ r 1 _ _ hrb
  have f2 := frozen_of_row _ r 2 _ _ hrb
  have y0 : V.cell? ⟨lb, 0, none⟩ = some (.int .i64 0) := by unfold World.cell?; rw [hyb]; rfl
  have y1 : V.cell? ⟨lb, 1, none⟩ = some (.int .i64 0) := by unfold World.cell?; rw [hyb]; rfl
  have y2 : V.cell? ⟨lb, 2, none⟩ = some (.int .i64 0) := by unfold World.cell?; rw [hyb]; rfl
  have y3 : V.cell? ⟨lb, 3, none⟩ = some (.int .i64 0) := by unfold World.cell?; rw [hyb]; rfl
  clear hV hlb hr hbV hyb hrb
  go_region
  all_goals
    clear y0 y1 y2 y3 z0 z1 z2 f0 f1 f2
    obtain ⟨hfb, hfh⟩ := set3 HZ.out.1 HZ.out.2.1 HZ.out.2.2 (.int .i64 0) (.int .i64 0) (.int .i64 0)
    have HF := Lib.hid hfb
    have r0 : (((V.setCell ⟨r, 0, none⟩ (.int .i64 0)).setCell ⟨r, 1, none⟩ (.int .i64 0)).setCell ⟨r, 2, none⟩ (.int .i64 0)).drew.cell? ⟨r, 0, none⟩ = some (.int .i64 0) := (cells3 hfh (Below.refl _ _)).1
    have r1 : (((V.setCell ⟨r, 0, none⟩ (.int .i64 0)).setCell ⟨r, 1, none⟩ (.int .i64 0)).setCell ⟨r, 2, none⟩ (.int .i64 0)).drew.cell? ⟨r, 1, none⟩ = some (.int .i64 0) := (cells3 hfh (Below.refl _ _)).2.1
    have r2 : (((V.setCell ⟨r, 0, none⟩ (.int .i64 0)).setCell ⟨r, 1, none⟩ (.int .i64 0)).setCell ⟨r, 2, none⟩ (.int .i64 0)).drew.cell? ⟨r, 2, none⟩ = some (.int .i64 0) := (cells3 hfh (Below.refl _ _)).2.2
    clear hfb hfh
    generalize (((V.setCell ⟨r, 0, none⟩ (.int .i64 0)).setCell ⟨r, 1, none⟩ (.int .i64 0)).setCell ⟨r, 2, none⟩ (.int .i64 0)).drew = X at *
    go_wp2
    refine bodyPost_ret (v := .tuple #[stV 0 0 0, .int .i64 0, .bool false]) (by simp [results, Try.results20, go_sem, r0, r1, r2]) rfl ⟨?_, HF.out⟩
    rfl
/-- What From and All of a nil track come to. -/
theorem allNil_calls (W : World) : Calls Try.prog 23 #[.pointer none] W fun e W' => ∃ gf lb, e = .returned (.func (.func gf) #[] lb) ∧ (∀ args w, (callFunc gf args).run Try.prog w = .ok (.enter gf args) w) ∧ Below W.heap.size W W' ∧ SeqP gf lb ([] : List En).length (fun j => #[(gE [] j).1.v, .int .i64 (gE [] j).2]) (fun _ => False) W' := by
  refine (allf_c none W).mono ?_
  rintro e W' ⟨rfl, rfl⟩
  obtain ⟨h1, h2, h3, h4⟩ := fromW_lays none (0, 1, 0) W
  exact ⟨_, _, rfl, eg_from, h1, fromNo_seq none W.heap.size (W.heap.size + 1) (0, 1, 0) ⟨by decide, by decide, by decide⟩ rfl _ _ h2 h3⟩
theorem toldNil_c (W : World) : Calls Try.prog 12 #[.pointer none] W fun e W' => (∃ v, e = .returned v ∧ RowE W' W.heap.size v []) ∧ Below W.heap.size W W' :=
  (told_c (.pointer none) [] (by decide) W fun V _ => allNil_calls V).mono fun e W' ⟨v, he, hr, hb⟩ => ⟨⟨v, he, hr⟩, hb⟩
end Go.Proofs.Ytibphmddepfgjaa.Tr
