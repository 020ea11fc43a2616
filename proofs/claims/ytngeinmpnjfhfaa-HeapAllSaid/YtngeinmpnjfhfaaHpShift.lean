/-
  heap's shift over this seat's translation. No condition but those that each theorem states.
-/
import Derived.Test.YtngeinmpnjfhfaaHpGoal
namespace Go.Proofs.Ytngeinmpnjfhfaa
open Go.Shelf Go.RowKit Go.Lib Go.Sort Hp

theorem flat_set (a b : Int) : ∀ (X : List It) (i : Nat), i < X.length → ((X.flatMap It.cells).set (i * 2) (.int .i64 a)).set (i * 2 + 1) (.int .i64 b) = (X.set i (a, b)).flatMap It.cells
  | [], _, h => by simp at h
  | y :: Y, 0, _ => rfl
  | y :: Y, i + 1, h => by
    have ih := flat_set a b Y i (by simpa using h)
    rw [show (i + 1) * 2 = i * 2 + 1 + 1 from by omega, List.flatMap_cons, List.set_cons_succ, List.flatMap_cons, ← ih]
    rfl
theorem RowIs.put {gb cap i : Nat} {W : World} {X : List It} (h : RowIs It.cells 2 33 gb X.length cap W X) (hi : i < X.length) (y : It) :
    RowIs It.cells 2 33 gb X.length cap ((W.setCell ⟨gb, i * 2, none⟩ (.int .i64 y.1)).setCell ⟨gb, i * 2 + 1, none⟩ (.int .i64 y.2)) (X.set i y) := by
  obtain ⟨cur, h1, h2, h3, h4, h5⟩ := h.whole
  have k1 := heap_setCell_same W gb (i * 2) _ _ (.int .i64 y.1) h1
  have k2 := heap_setCell_same _ gb (i * 2 + 1) _ _ (.int .i64 y.2) k1
  refine RowIs.of (by rw [List.length_set]) cT_len k2 h2 h3 (by simpa using h4) ?_
  have := flat_set y.1 y.2 X i hi
  rw [Array.toList_setIfInBounds, Array.toList_setIfInBounds, List.take_set, List.take_set, h5, this]
theorem RowIs.cells {gb cap i : Nat} {W : World} {X : List It} (h : RowIs It.cells 2 33 gb X.length cap W X) (hi : i < X.length) :
    W.cell? ⟨gb, i * 2, none⟩ = some (.int .i64 (Hp.g X i).1) ∧ W.cell? ⟨gb, i * 2 + 1, none⟩ = some (.int .i64 (Hp.g X i).2) ∧ W.frozen? ⟨gb, i * 2, none⟩ = false ∧ W.frozen? ⟨gb, i * 2 + 1, none⟩ = false := by
  obtain ⟨cur, h1, _⟩ := h.whole
  refine ⟨?_, ?_, frozen_of_row _ _ _ _ _ h1, frozen_of_row _ _ _ _ _ h1⟩
  · rw [h.row.cellAt (i * 2) (by omega), g_get hi]
    have := flat_get cT_len X i 0 hi (by omega)
    rw [Nat.add_zero] at this
    rw [this]; rfl
  · rw [h.row.cellAt (i * 2 + 1) (by omega), g_get hi, flat_get cT_len X i 1 hi (by omega)]
    rfl
theorem RowIs.lies {gb cap : Nat} {W : World} {X : List It} (h : RowIs It.cells 2 33 gb X.length cap W X) : Lies W (some ⟨gb, 0, none⟩) X := fun _ hi => ⟨gb, rfl, (h.cells hi).1, (h.cells hi).2.1⟩

/-- A row and a box that are written. -/
structure Sh (w : World) (gb bx cap : Nat) (X : List It) (e : It) (wr : World) : Prop where
  row : RowIs It.cells 2 33 gb X.length cap wr X
  box : wr.heap[bx]? = some (.cells #[.int .i64 e.1, .int .i64 e.2] 33 (0, 0))
  touch : Touch gb none w wr
  ne : gb ≠ bx
  new : w.heap.size ≤ bx
theorem Touch.cell {w wr : World} {gb : Nat} {row : Option Nat} (h : Touch gb row w wr) (a : Addr) (v : Value) (ha : a.block = gb ∨ w.heap.size ≤ a.block) : Touch gb row w (wr.setCell a v) :=
  ⟨h.os, h.tape, h.output, by simpa using h.size, fun k hk h1 h2 => (heap_setCell_other _ a k _ (by rcases ha with e | e <;> omega)).trans (h.block k hk h1 h2)⟩
theorem Sh.put {w wr : World} {gb bx cap i : Nat} {X : List It} {e : It} (h : Sh w gb bx cap X e wr) (hi : i < X.length) (y : It) : Sh w gb bx cap (X.set i y) e ((wr.setCell ⟨gb, i * 2, none⟩ (.int .i64 y.1)).setCell ⟨gb, i * 2 + 1, none⟩ (.int .i64 y.2)) := by
  refine ⟨by rw [List.length_set]; exact h.row.put hi y, ?_, (h.touch.cell _ _ (.inl rfl)).cell _ _ (.inl rfl), h.ne, h.new⟩
  rw [heap_setCell_other _ _ _ _ (Ne.symm h.ne), heap_setCell_other _ _ _ _ (Ne.symm h.ne)]
  exact h.box
theorem Sh.eput {w wr : World} {gb bx cap : Nat} {X : List It} {e : It} (h : Sh w gb bx cap X e wr) (y : It) : Sh w gb bx cap X y ((wr.setCell ⟨bx, 0, none⟩ (.int .i64 y.1)).setCell ⟨bx, 1, none⟩ (.int .i64 y.2)) := by
  refine ⟨h.row.same cT_len ?_, ?_, (h.touch.cell _ _ (.inr h.new)).cell _ _ (.inr h.new), h.ne, h.new⟩
  · rw [heap_setCell_other _ _ _ _ h.ne, heap_setCell_other _ _ _ _ h.ne]
  · have k1 := heap_setCell_same wr bx 0 _ _ (.int .i64 y.1) h.box
    exact heap_setCell_same _ bx 1 _ _ (.int .i64 y.2) k1
theorem Sh.drew {w wr : World} {gb bx cap : Nat} {X : List It} {e : It} (h : Sh w gb bx cap X e wr) : Sh w gb bx cap X e wr.drew := ⟨h.row.same cT_len rfl, h.box, ⟨h.touch.os, h.touch.tape, h.touch.output, h.touch.size, h.touch.block⟩, h.ne, h.new⟩

set_option maxHeartbeats 16000000 in
set_option maxRecDepth 100000 in
theorem shift_c (gb cap f t : Nat) (X : List It) (e : It) (w : World) (hrow : RowIs It.cells 2 33 gb X.length cap w X) (hf : f < X.length) (ht : t < X.length) (hlen : X.length ≤ 1000000) :
    Calls Try.prog 33 #[.slice (some ⟨gb, 0, none⟩) X.length cap, .int .i64 f, .int .i64 t, .agg #[.int .i64 e.1, .int .i64 e.2]] w fun r w' => r = .returned (.tuple #[]) ∧ RowIs It.cells 2 33 gb X.length cap w' (shift X f t e) ∧ Touch gb none w w' := by
  have mixed : Try.prog.follows .mixedOrders = true := by kernel_rfl
  have KA := Lib.hid fun (t : Nat) (h0 : 0 < t) (ht : t ≤ 1000000) (w : World) => (above_pos t h0 ht w).mono (R' := fun e w' => e = .returned (.int .i64 (up t : Nat)) ∧ w = w') fun _ _ ⟨h1, h2⟩ => ⟨h1, h2.symm⟩
  obtain ⟨n, hn⟩ : ∃ n, X.length = n := ⟨_, rfl⟩
  obtain ⟨R, hR⟩ : ∃ R, shift X f t e = R := ⟨_, rfl⟩
  have hbox := World.alloc_heap_new w (.cells #[.int .i64 e.1, .int .i64 e.2] 33)
  have hlt : gb < w.heap.size := by
    obtain ⟨cur, h1, _⟩ := hrow.whole
    exact (Array.getElem?_eq_some_iff.1 h1).1
  have HS := Lib.hid (show Sh w gb w.heap.size cap X e (w.alloc (.cells #[.int .i64 e.1, .int .i64 e.2] 33)) from
    ⟨hrow.same cT_len (Below.heap_alloc _ _ _ hlt), hbox, Touch.below (bA' (Below.refl _ _) (Nat.le_refl _) _), by omega, Nat.le_refl _⟩)
  have HR := Lib.hid (show sDn (sUp X f t).1 (sUp X f t).2 t e = R from hR)
  have hfn : f < n := by omega
  have htn : t < n := by omega
  have HN := Lib.hid hn
  rw [hR, hn]
  rw [hn] at hlen
  clear hrow hbox hR hf ht hn hlt
  go_enter Try.func33, Try.ntmps33
  go_wp2
  generalize w.alloc (.cells #[.int .i64 e.1, .int .i64 e.2] 33) = W0 at *
  obtain ⟨bx, hbx⟩ : ∃ bx, w.heap.size = bx := ⟨_, rfl⟩
  rw [hbx] at HS ⊢
  clear hbx
  go_loopw [1] (fun v wr => ∃ (f' : Nat) (X' : List It), v = .int .i64 f' ∧ f' < n ∧ Hid (sUp X' f' t = sUp X f t ∧ X'.length = n ∧ Sh w gb bx cap X' e wr)) (fun v _ => (intOf v).toNat)
  case atStart => exact ⟨f, X, rfl, hfn, rfl, HN.out, HS.out⟩
  case round =>
    clear HS
    obtain ⟨f', X', rfl, hfn', HH⟩ := hrel
    by_cases hlt : t < f'
    · have hd1 : decide ((f' : Int) > (t : Int)) = true := decide_eq_true (by omega)
      have hd2 : decide (t < f') = true := decide_eq_true hlt
      have hpos : 0 < f' := by omega
      obtain ⟨u, hu⟩ : ∃ u, up f' = u := ⟨_, rfl⟩
      have hut : u < f' := by rw [← hu]; exact up_lt hpos
      have KA1 := Lib.hid fun (w : World) => KA.out f' hpos (by omega) w
      rw [hu] at KA1
      obtain ⟨a1, a2, a3, a4⟩ := HH.out.2.2.row.cells (i := u) (by have := HH.out.2.1; omega)
      obtain ⟨b1, b2, b3, b4⟩ := HH.out.2.2.row.cells (i := f') (by have := HH.out.2.1; omega)
      obtain ⟨y, hy⟩ : ∃ y, Hp.g X' u = y := ⟨_, rfl⟩
      rw [hy] at a1 a2
      have huz : (u : Int) < (n : Int) := by omega
      have hfz : (f' : Int) < (n : Int) := by omega
      have HQ := Lib.hid (show sUp (X'.set f' y) u t = sUp X f t ∧ (X'.set f' y).length = n ∧ Sh w gb bx cap (X'.set f' y) e ((wr.setCell ⟨gb, f' * 2, none⟩ (.int .i64 y.1)).setCell ⟨gb, f' * 2 + 1, none⟩ (.int .i64 y.2)) from by
        refine ⟨?_, by rw [List.length_set]; exact HH.out.2.1, HH.out.2.2.put (by have := HH.out.2.1; omega) y⟩
        rw [← HH.out.1, sUp.eq_def X', dif_pos hlt, hu, hy])
      clear hu hy HH hpos
      go_wp2_with (first | (go_at_call 42; refine (KA1.out _).mono ?_; rintro e2 w2 ⟨rfl, rfl⟩))
      clear a1 a2 a3 a4 b1 b2 b3 b4
      generalize (wr.setCell ⟨gb, f' * 2, none⟩ (.int .i64 y.1)).setCell ⟨gb, f' * 2 + 1, none⟩ (.int .i64 y.2) = w3 at *
      go_wp2_with (first | (go_at_call 42; refine (KA1.out _).mono ?_; rintro e2 w2 ⟨rfl, rfl⟩))
      exact ⟨⟨u, X'.set f' y, rfl, by omega, HQ.out⟩, by simp [intOf]; omega⟩
    · have hd1 : decide ((f' : Int) > (t : Int)) = false := decide_eq_false (by omega)
      have hd2 : decide (t < f') = false := decide_eq_false hlt
      have HU := Lib.hid (show sDn X' f' t e = R from by
        have h1 := HH.out.1
        rw [sUp.eq_def X', dif_neg hlt] at h1
        have h2 := HR.out
        rw [← h1] at h2
        exact h2)
      have HS2 := Lib.hid HH.out.2
      have hft : f' ≤ t := by omega
      clear HH HR hlt
      go_wp2
      clear hd1 hd2
      go_loopw [2] (fun v wr => ∃ (t' : Nat) (Y : List It) (d : It), v = .int .i64 t' ∧ t' < n ∧ Hid (sDn Y f' t' d = R ∧ Y.length = n ∧ Sh w gb bx cap Y d wr)) (fun v _ => (intOf v).toNat)
      case atStart => exact ⟨t, X', e, rfl, htn, HU.out, HS2.out⟩
      case round =>
        clear HS2 HU
        obtain ⟨t', Y, d, rfl, htn', HH⟩ := hrel
        obtain ⟨b1, b2, b3, b4⟩ := HH.out.2.2.row.cells (i := t') (by have := HH.out.2.1; omega)
        obtain ⟨y, hy⟩ : ∃ y, Hp.g Y t' = y := ⟨_, rfl⟩
        rw [hy] at b1 b2
        have c1 := (cell_two HH.out.2.2.box).1
        have c2 := (cell_two HH.out.2.2.box).2.1
        have c3 : wr.frozen? ⟨bx, 0, none⟩ = false := frozen_of_row _ _ _ _ _ HH.out.2.2.box
        have c4 : wr.frozen? ⟨bx, 1, none⟩ = false := frozen_of_row _ _ _ _ _ HH.out.2.2.box
        have hne : ¬ gb = bx := HH.out.2.2.ne
        have hne2 : ¬ bx = gb := fun e => hne e.symm
        have htz : (t' : Int) < (n : Int) := by omega
        by_cases hlt : f' < t'
        · have hd1 : decide ((t' : Int) > (f' : Int)) = true := decide_eq_true (by omega)
          have hd2 : decide (f' < t') = true := decide_eq_true hlt
          have hpos : 0 < t' := by omega
          obtain ⟨u, hu⟩ : ∃ u, up t' = u := ⟨_, rfl⟩
          have hut : u < t' := by rw [← hu]; exact up_lt hpos
          have KA1 := Lib.hid fun (w : World) => KA.out t' hpos (by omega) w
          rw [hu] at KA1
          have HQ := Lib.hid (show sDn (Y.set t' d) f' u y = R ∧ (Y.set t' d).length = n ∧ Sh w gb bx cap (Y.set t' d) y (((((wr.setCell ⟨gb, t' * 2, none⟩ (.int .i64 d.1)).setCell ⟨gb, t' * 2 + 1, none⟩ (.int .i64 d.2)).setCell ⟨bx, 0, none⟩ (.int .i64 y.1)).setCell ⟨bx, 1, none⟩ (.int .i64 y.2)).drew) from by
            refine ⟨?_, by rw [List.length_set]; exact HH.out.2.1, ((HH.out.2.2.put (by have := HH.out.2.1; omega) d).eput y).drew⟩
            rw [← HH.out.1, sDn.eq_def Y, dif_pos hlt, hu, hy])
          clear hu hy HH hpos hlt
          go_wp2_with fail
          go_big_region_o
          clear b1 b2 b3 b4 c1 c2 c3 c4 hne hne2
          generalize (((((wr.setCell ⟨gb, t' * 2, none⟩ (.int .i64 d.1)).setCell ⟨gb, t' * 2 + 1, none⟩ (.int .i64 d.2)).setCell ⟨bx, 0, none⟩ (.int .i64 y.1)).setCell ⟨bx, 1, none⟩ (.int .i64 y.2)).drew) = w3 at *
          go_wp2_with (first | (go_at_call 42; refine (KA1.out _).mono ?_; rintro e2 w2 ⟨rfl, rfl⟩))
          exact ⟨⟨u, Y.set t' d, y, rfl, by omega, HQ.out⟩, by simp [intOf]; omega⟩
        · have hd1 : decide ((t' : Int) > (f' : Int)) = false := decide_eq_false (by omega)
          have hd2 : decide (f' < t') = false := decide_eq_false hlt
          have HQ := Lib.hid (HH.out.2.2.put (i := t') (by have := HH.out.2.1; omega) d)
          have HE := Lib.hid (show Y.set t' d = R ∧ Y.length = n from ⟨by rw [← HH.out.1, sDn.eq_def Y, dif_neg hlt], HH.out.2.1⟩)
          clear HH hlt hy
          go_wp2
          go_end0
          obtain ⟨q1, q2⟩ := HE.out
          have hq := HQ.out
          rw [q1] at hq
          refine ⟨rfl, ?_, hq.touch⟩
          have hl := hq.row
          rwa [show R.length = n from by rw [← q1, List.length_set]; exact q2] at hl
end Go.Proofs.Ytngeinmpnjfhfaa
