/-
  The law TrackNil over this seat's translation, from what a nil track answers. Conditions: those that each theorem states.
-/
import Derived.Test.YtibphmddepfgjaaR7D
import Derived.Test.YtibphmddepfgjaaMG
namespace Go.Proofs.Ytibphmddepfgjaa.Tr
open Go.RowKit Go.Shelf Go.Lib Go.Sort

/-- What the law TrackNil holds. -/
structure NiI (w : World) (s : Sp) (W : World) : Prop where
  below : Below w.heap.size w W
  st : W.heap[w.heap.size]? = some (.cells #[.int .i64 s.1, .int .i64 s.2.1, .int .i64 s.2.2] 26 (0, 0))
theorem NiI.on {w W W' : World} {s : Sp} (h : NiI w s W) (hb : Below W.heap.size W W') : NiI w s W' := ⟨bT' h.below hb h.below.size, kbE h.st hb⟩

set_option maxHeartbeats 16000000 in
set_option maxRecDepth 100000 in
theorem nil_w (s : Sp) (x : Int) (w : World)
    (k0 : ∀ W, Below w.heap.size w W → Calls Try.prog 8 #[] W fun e w' => e = .returned (.bool true) ∧ Below W.heap.size W w')
    (kat : ∀ W, Calls Try.prog 20 #[.pointer none, s.v] W fun e w' => e = .returned (.tuple #[stV 0 0 0, .int .i64 0, .bool false]) ∧ Below W.heap.size W w')
    (kput : ∀ W, Calls Try.prog 10 #[.pointer none, s.v, .int .i64 x] W fun e w' => e = .returned (.int .i64 1) ∧ Below W.heap.size W w')
    (kset : ∀ W, Calls Try.prog 19 #[.pointer none, s.v, .int .i64 x] W fun e w' => e = .returned (.bool false) ∧ Below W.heap.size W w')
    (kback : ∀ W, Calls Try.prog 13 #[.pointer none, s.v] W fun e w' => (∃ p c, e = .returned (.slice p 0 c)) ∧ Below W.heap.size W w')
    (kfree : ∀ W, Calls Try.prog 21 #[.pointer none, s.v] W fun e w' => (∃ p c, e = .returned (.slice p 0 c)) ∧ Below W.heap.size W w')
    (klen : ∀ W, Calls Try.prog 14 #[.pointer none] W fun e w' => e = .returned (.int .i64 0) ∧ Below W.heap.size W w')
    (ktold : ∀ W, Calls Try.prog 12 #[.pointer none] W fun e W' => (∃ v, e = .returned v ∧ RowE W' W.heap.size v []) ∧ Below W.heap.size W W') :
    Calls Try.prog 6 #[s.v, .int .i64 x] w fun e w' => e = .returned (.bool true) ∧ Below w.heap.size w w' := by
  obtain ⟨W1, hW1⟩ : ∃ W1, w.alloc (.cells #[.int .i64 s.1, .int .i64 s.2.1, .int .i64 s.2.2] 26) = W1 := ⟨_, rfl⟩
  have HO : Hid (NiI w s W1) := Lib.hid ⟨hW1 ▸ bA' (Below.refl _ _) (Nat.le_refl _) _, hW1 ▸ World.alloc_heap_new w _⟩
  have HW := Lib.hid hW1
  have K0 := Lib.hid k0
  have KAT := Lib.hid kat
  have KPUT := Lib.hid kput
  have KSET := Lib.hid kset
  have KBACK := Lib.hid kback
  have KFREE := Lib.hid kfree
  have KLEN := Lib.hid klen
  have KTOLD := Lib.hid ktold
  have heq := eqP 0 0 0 0 0 0
  clear hW1 k0 kat kput kset kback kfree klen ktold
  obtain ⟨x0, x1, x2⟩ := cells3 HO.out.st (Below.refl _ _)
  go_enter Try.func6, Try.ntmps6
  go_wp2_with fail
  rw [HW.out]
  clear HW
  clear x0 x1 x2
  refine (of7_c _ _ _ _).mono ?_
  rintro e w3 ⟨rfl, hb⟩
  replace HO := Lib.hid (HO.out.on hb)
  clear hb
  obtain ⟨x0, x1, x2⟩ := cells3 HO.out.st (Below.refl _ _)
  go_wp2_with fail
  clear x0 x1 x2
  refine (KAT.out _).mono ?_
  rintro e w4 ⟨rfl, hb⟩
  replace HO := Lib.hid (HO.out.on hb)
  have hba : Below w4.heap.size w4 (w4.alloc (.cells #[.int .i64 0, .int .i64 0, .int .i64 0] 33)) := bA' (Below.refl _ _) (Nat.le_refl _) _
  replace HO := Lib.hid (HO.out.on hba)
  have HZ := Lib.hid (show (w4.alloc (.cells #[.int .i64 0, .int .i64 0, .int .i64 0] 33)).heap[w4.heap.size]? = some (.cells #[.int .i64 0, .int .i64 0, .int .i64 0] 33 (0, 0)) from World.alloc_heap_new w4 _)
  clear hb hba
  obtain ⟨x0, x1, x2⟩ := cells3 HO.out.st (Below.refl _ _)
  go_wp2_with fail
  clear x0 x1 x2
  refine (K0.out _ HO.out.below).mono ?_
  rintro e w5 ⟨rfl, hb⟩
  replace HO := Lib.hid (HO.out.on hb)
  replace HZ := Lib.hid (kbE HZ.out hb)
  clear hb
  obtain ⟨x0, x1, x2⟩ := cells3 HO.out.st (Below.refl _ _)
  go_wp2_with fail
  clear x0 x1 x2
  refine (of7_c _ _ _ _).mono ?_
  rintro e w6 ⟨rfl, hb⟩
  replace HO := Lib.hid (HO.out.on hb)
  replace HZ := Lib.hid (kbE HZ.out hb)
  clear hb
  obtain ⟨x0, x1, x2⟩ := cells3 HO.out.st (Below.refl _ _)
  go_wp2_with fail
  clear x0 x1 x2
  refine (KPUT.out _).mono ?_
  rintro e w7 ⟨rfl, hb⟩
  replace HO := Lib.hid (HO.out.on hb)
  replace HZ := Lib.hid (kbE HZ.out hb)
  clear hb
  obtain ⟨x0, x1, x2⟩ := cells3 HO.out.st (Below.refl _ _)
  go_wp2_with fail
  clear x0 x1 x2
  refine (of7_c _ _ _ _).mono ?_
  rintro e w8 ⟨rfl, hb⟩
  replace HO := Lib.hid (HO.out.on hb)
  replace HZ := Lib.hid (kbE HZ.out hb)
  clear hb
  obtain ⟨x0, x1, x2⟩ := cells3 HO.out.st (Below.refl _ _)
  go_wp2_with fail
  clear x0 x1 x2
  refine (KSET.out _).mono ?_
  rintro e w9 ⟨rfl, hb⟩
  replace HO := Lib.hid (HO.out.on hb)
  replace HZ := Lib.hid (kbE HZ.out hb)
  clear hb
  obtain ⟨x0, x1, x2⟩ := cells3 HO.out.st (Below.refl _ _)
  obtain ⟨z0, z1, z2⟩ := cells3 HZ.out (Below.refl _ _)
  go_wp2_with fail
  clear z0 z1 z2 x0 x1 x2
  refine (of7_c _ _ _ _).mono ?_
  rintro e w10 ⟨rfl, hb⟩
  replace HO := Lib.hid (HO.out.on hb)
  replace HZ := Lib.hid (kbE HZ.out hb)
  clear hb
  obtain ⟨x0, x1, x2⟩ := cells3 HO.out.st (Below.refl _ _)
  go_wp2_with fail
  clear x0 x1 x2
  refine (KBACK.out _).mono ?_
  rintro e w11 ⟨⟨pb, cb, rfl⟩, hb⟩
  replace HO := Lib.hid (HO.out.on hb)
  replace HZ := Lib.hid (kbE HZ.out hb)
  clear hb
  obtain ⟨x0, x1, x2⟩ := cells3 HO.out.st (Below.refl _ _)
  go_wp2_with fail
  clear x0 x1 x2
  refine (of7_c _ _ _ _).mono ?_
  rintro e w12 ⟨rfl, hb⟩
  replace HO := Lib.hid (HO.out.on hb)
  replace HZ := Lib.hid (kbE HZ.out hb)
  clear hb
  obtain ⟨x0, x1, x2⟩ := cells3 HO.out.st (Below.refl _ _)
  go_wp2_with fail
  clear x0 x1 x2
  refine (KFREE.out _).mono ?_
  rintro e w13 ⟨⟨pf, cf, rfl⟩, hb⟩
  replace HO := Lib.hid (HO.out.on hb)
  replace HZ := Lib.hid (kbE HZ.out hb)
  clear hb
  obtain ⟨x0, x1, x2⟩ := cells3 HO.out.st (Below.refl _ _)
  go_wp2_with fail
  clear x0 x1 x2
  refine (KLEN.out _).mono ?_
  rintro e w14 ⟨rfl, hb⟩
  replace HO := Lib.hid (HO.out.on hb)
  replace HZ := Lib.hid (kbE HZ.out hb)
  clear hb
  obtain ⟨x0, x1, x2⟩ := cells3 HO.out.st (Below.refl _ _)
  go_wp2_with fail
  clear x0 x1 x2
  refine (KTOLD.out _).mono ?_
  rintro e w99 ⟨⟨v, rfl, hv⟩, hb⟩
  replace HO := Lib.hid (HO.out.on hb)
  obtain ⟨pt, ct, rfl, -⟩ := RowE.form hv
  clear hb hv
  go_wp2
  go_ret
  exact ⟨rfl, HO.out.below⟩
end Go.Proofs.Ytibphmddepfgjaa.Tr
