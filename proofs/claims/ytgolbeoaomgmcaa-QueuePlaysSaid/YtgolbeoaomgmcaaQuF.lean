/-
  queue's Push and Pop over this seat's translation. Conditions: those that each theorem states.
-/
import Derived.Test.YtgolbeoaomgmcaaQuE
namespace Go.Proofs.Ytgolbeoaomgmcaa
open Go.RowKit Go.Shelf Go.Lib Go.Sort Qu

/-- What an own row comes to. -/
abbrev New (p p' : Option Addr) (w : World) : Prop := p' = p ∨ ∀ g, blk p' = some g → w.heap.size ≤ g
set_option maxHeartbeats 8000000 in
set_option maxRecDepth 100000 in
theorem push_c {q : Nat} {p : Option Addr} {R : List Int} {f k : Nat} {xs : List Int} {w : World} (x : Int) (h : QueS w q p R f k xs) (hlt : xs.length < k) :
    Calls Try.prog 9 #[.pointer (some ⟨q, 0, none⟩), .int .i64 x] w fun e w' => e = .returned (.int .i64 0) ∧ ∃ p' R' f', QueS w' q p' R' f' k (xs ++ [x]) ∧ Touch q (blk p) w w' ∧ New p p' w := by
  have mixed : Try.prog.follows .mixedOrders = true := by kernel_rfl
  have hd1 : decide ((xs.length : Int) ≥ (k : Int)) = false := decide_eq_false (by omega)
  have hd2 : ¬ (k : Int) ≤ (xs.length : Int) := by omega
  obtain ⟨c0, c1, c2, c3⟩ := cell_four h.box
  have hfit := h.ring.fit
  have KG := Lib.hid fun (W : World) (hb : Below w.heap.size w W) => grow_c (h.below hb) hlt
  have HH := Lib.hid h
  by_cases hn : xs.length = R.length
  · have hz : ((xs.length : Int) == (R.length : Int)) = true := by rw [beq_iff_eq]; omega
    have hz2 : (xs.length : Int) = (R.length : Int) := by omega
    clear h hlt hfit hn c1
    obtain ⟨n, hnn⟩ : ∃ n, xs.length = n := ⟨_, rfl⟩
    obtain ⟨L0, hLL⟩ : ∃ L, R.length = L := ⟨_, rfl⟩
    rw [hnn] at hd1 hd2 c2 hz hz2
    rw [hLL] at c0 hz hz2
    clear hnn hLL
    go_enter Try.func9, Try.ntmps9
    go_wp2_with fail
    go_quiet (fail)
    go_wp2_with fail
    go_quiet (fail)
    go_wp2_with fail
    refine (KG.out _ (by first | exact (G.drew _ _).below | exact bT2 (G.drew _ _).below (G.drew _ _).below)).mono ?_
    rintro e w2 ⟨rfl, g1, R', hg1, hv, hlt', ht⟩
    obtain ⟨p', hp'⟩ : ∃ p' : Option Addr, some ⟨g1, 0, none⟩ = p' := ⟨_, rfl⟩
    obtain ⟨f', hf'⟩ : ∃ f' : Nat, 0 = f' := ⟨_, rfl⟩
    rw [hp', hf'] at hv
    have HT := Lib.hid (And.intro (show w.heap.size ≤ g1 from hg1) (And.intro (show Touch q none w w2 from (Touch.below (by first | exact (G.drew _ _).below | exact bT2 (G.drew _ _).below (G.drew _ _).below)).trans ht (.inl rfl)) hp'))
    clear hg1 ht KG c0 c2 c3 hd1 hd2 hz hz2 hp' hf'
    have hlen := hv.len
    have hr := hv.room
    have hfit := hv.ring.fit
    obtain ⟨c0, c1, c2, _⟩ := cell_four hv.box
    obtain ⟨g, hg⟩ : ∃ g, blk p' = some g := by
      rcases hv.row with ⟨_, h0⟩ | ⟨g, e, _⟩
      · omega
      · exact ⟨g, by rw [e]; rfl⟩
    obtain ⟨rfl, hrow⟩ := hv.at hg
    have hml : (f' + xs.length) % R'.length < R'.length := Nat.mod_lt _ (by omega)
    have r0 : ∃ u, (w2).cell? ⟨g, (f' + xs.length) % R'.length, none⟩ = some u := by
      rw [rowO_cell hrow, List.getElem?_eq_getElem hml]
      exact ⟨_, rfl⟩
    obtain ⟨u, r0⟩ := r0
    have z0 := frozen_of_row _ g ((f' + xs.length) % R'.length) _ _ hrow
    have z2 := frozen_of_row _ q 2 _ _ hv.box
    have KP := Lib.hid fun (W' : World) (hb : Below (w2).heap.size (w2) W') => place_g q (some ⟨g, 0, none⟩) R'.length f' xs.length W' (kc' hb c0) (kc' hb c1) (by omega) (by omega) (by omega) (by omega)
    have HV := Lib.hid (And.intro hv (And.intro hg (And.intro (hv.ne hg) hlt')))
    obtain ⟨m, hm⟩ : ∃ m, (f' + xs.length) % R'.length = m := ⟨_, rfl⟩
    obtain ⟨L, hL⟩ : ∃ L, R'.length = L := ⟨_, rfl⟩
    obtain ⟨n', hn'⟩ : ∃ n', xs.length = n' := ⟨_, rfl⟩
    rw [hm, hn'] at KP
    rw [hm] at r0 z0 hml
    rw [hL] at hml c0
    rw [hn'] at c2
    have hmz : (m : Int) < (L : Int) := by omega
    have ri : IntKind.i64.wrap ((n' : Int) + 1) = ((n' + 1 : Nat) : Int) := by rw [IntKind.wrap_i64]; omega
    have HM := Lib.hid (And.intro hm hn')
    clear hlen hr hfit hg hrow hm hL hn' c1 hml hv hlt'
    go_wp2_with fail
    go_region_law (first
        | (go_simp; go_at_call 21; refine (KP.out _ (by first | exact Below.refl _ _ | exact Below.drew (Below.refl _ _))).mono ?_; rintro e w8 ⟨rfl, hG⟩; have HP := Lib.hid (show Below (w2).heap.size (w2) w8 from bT' (Below.drew (Below.refl _ _)) (G.below hG) (Nat.le_refl _)); have d0 := kc' HP.out c0; have d2 := kc' HP.out c2; have dr := kc' HP.out r0; have er := frz HP.out r0 z0; have e2 := frz HP.out c2 z2; clear hG))
    all_goals
      have d2' : (w8.setCell ⟨g, m, none⟩ (.int .i64 x)).cell? ⟨q, 2, none⟩ = some (.int .i64 n') := (st_cell HV.out.2.2.1).trans d2
      have e2' : (w8.setCell ⟨g, m, none⟩ (.int .i64 x)).frozen? ⟨q, 2, none⟩ = false := (st_frz HV.out.2.2.1).trans e2
      clear d0 d2 dr er e2 c0 c2 r0 z0 z2
    all_goals go_wp2
    all_goals go_ret
    all_goals
      obtain ⟨hv, hg, hne, hlt'⟩ := HV.out
      obtain ⟨hm, hn'⟩ := HM.out
      subst hn'
      obtain ⟨e1, e2⟩ := push_end x hv hg HP.out hlt' hm
      have HT := HT.out
      refine ⟨rfl, _, _, _, e1, ?_, .inr fun g' e => ?_⟩
      · have h3 := HT.2.2
        have h2 := HT.2.1
        refine ⟨e2.os.trans h2.os, e2.tape.trans h2.tape, e2.output.trans h2.output, Nat.le_trans h2.size e2.size, fun b hb hne hne2 => (e2.block b (Nat.lt_of_lt_of_le hb h2.size) hne fun e => ?_).trans (h2.block b hb hne (by simp))⟩
        rw [← h3] at e
        simp [blk] at e
        have := HT.1
        omega
      · rw [← HT.2.2] at e
        simp [blk] at e
        have := HT.1
        omega
  · have hz : ((xs.length : Int) == (R.length : Int)) = false := by rw [beq_eq_false_iff_ne]; omega
    have hz2 : ¬ (xs.length : Int) = (R.length : Int) := by omega
    have hlt' : xs.length < R.length := by omega
    have HLT := Lib.hid hlt'
    clear h hlt hfit hn c1 hlt' KG
    obtain ⟨n, hnn⟩ : ∃ n, xs.length = n := ⟨_, rfl⟩
    obtain ⟨L0, hLL⟩ : ∃ L, R.length = L := ⟨_, rfl⟩
    rw [hnn] at hd1 hd2 c2 hz hz2
    rw [hLL] at c0 hz hz2
    clear hnn hLL
    go_enter Try.func9, Try.ntmps9
    go_wp2_with fail
    go_quiet (fail)
    revert nq
    intro nq0
    go_wp2_with fail
    go_quiet (fail)
    clear c0 c2 c3 hd1 hd2 hz hz2
    obtain ⟨w2, hw2⟩ : ∃ w2 : World, w2 = (w.drewN nq0).drewN nq := ⟨_, rfl⟩
    rw [← hw2]
    have hb2 : Below w.heap.size w w2 := by rw [hw2]; first | exact (G.drew _ _).below | exact bT2 (G.drew _ _).below (G.drew _ _).below
    have hv := HH.out.below hb2
    have hlt' := HLT.out
    have HB2 := Lib.hid hb2
    obtain ⟨p', hp'⟩ : ∃ p', p = p' := ⟨_, rfl⟩
    obtain ⟨R', hR'⟩ : ∃ R', R = R' := ⟨_, rfl⟩
    obtain ⟨f', hf'⟩ : ∃ f', f = f' := ⟨_, rfl⟩
    rw [hp', hR', hf'] at hv
    rw [hR'] at hlt'
    have HPP := Lib.hid hp'
    clear hp' hR' hf' hw2 hb2
    have hlen := hv.len
    have hr := hv.room
    have hfit := hv.ring.fit
    obtain ⟨c0, c1, c2, _⟩ := cell_four hv.box
    obtain ⟨g, hg⟩ : ∃ g, blk p' = some g := by
      rcases hv.row with ⟨_, h0⟩ | ⟨g, e, _⟩
      · omega
      · exact ⟨g, by rw [e]; rfl⟩
    obtain ⟨rfl, hrow⟩ := hv.at hg
    have hml : (f' + xs.length) % R'.length < R'.length := Nat.mod_lt _ (by omega)
    have r0 : ∃ u, (w2).cell? ⟨g, (f' + xs.length) % R'.length, none⟩ = some u := by
      rw [rowO_cell hrow, List.getElem?_eq_getElem hml]
      exact ⟨_, rfl⟩
    obtain ⟨u, r0⟩ := r0
    have z0 := frozen_of_row _ g ((f' + xs.length) % R'.length) _ _ hrow
    have z2 := frozen_of_row _ q 2 _ _ hv.box
    have KP := Lib.hid fun (W' : World) (hb : Below (w2).heap.size (w2) W') => place_g q (some ⟨g, 0, none⟩) R'.length f' xs.length W' (kc' hb c0) (kc' hb c1) (by omega) (by omega) (by omega) (by omega)
    have HV := Lib.hid (And.intro hv (And.intro hg (And.intro (hv.ne hg) hlt')))
    obtain ⟨m, hm⟩ : ∃ m, (f' + xs.length) % R'.length = m := ⟨_, rfl⟩
    obtain ⟨L, hL⟩ : ∃ L, R'.length = L := ⟨_, rfl⟩
    obtain ⟨n', hn'⟩ : ∃ n', xs.length = n' := ⟨_, rfl⟩
    rw [hm, hn'] at KP
    rw [hm] at r0 z0 hml
    rw [hL] at hml c0
    rw [hn'] at c2
    have hmz : (m : Int) < (L : Int) := by omega
    have ri : IntKind.i64.wrap ((n' : Int) + 1) = ((n' + 1 : Nat) : Int) := by rw [IntKind.wrap_i64]; omega
    have HM := Lib.hid (And.intro hm hn')
    clear hlen hr hfit hg hrow hm hL hn' c1 hml hv hlt'
    go_wp2_with fail
    go_region_law (first
        | (go_simp; go_at_call 21; refine (KP.out _ (by first | exact Below.refl _ _ | exact Below.drew (Below.refl _ _))).mono ?_; rintro e w8 ⟨rfl, hG⟩; have HP := Lib.hid (show Below (w2).heap.size (w2) w8 from bT' (Below.drew (Below.refl _ _)) (G.below hG) (Nat.le_refl _)); have d0 := kc' HP.out c0; have d2 := kc' HP.out c2; have dr := kc' HP.out r0; have er := frz HP.out r0 z0; have e2 := frz HP.out c2 z2; clear hG))
    all_goals
      have d2' : (w8.setCell ⟨g, m, none⟩ (.int .i64 x)).cell? ⟨q, 2, none⟩ = some (.int .i64 n') := (st_cell HV.out.2.2.1).trans d2
      have e2' : (w8.setCell ⟨g, m, none⟩ (.int .i64 x)).frozen? ⟨q, 2, none⟩ = false := (st_frz HV.out.2.2.1).trans e2
      clear d0 d2 dr er e2 c0 c2 r0 z0 z2
    all_goals go_wp2
    all_goals go_ret
    all_goals
      obtain ⟨hv, hg, hne, hlt'⟩ := HV.out
      obtain ⟨hm, hn'⟩ := HM.out
      subst hn'
      obtain ⟨e1, e2⟩ := push_end x hv hg HP.out hlt' hm
      refine ⟨rfl, _, _, _, e1, ?_, .inl HPP.out.symm⟩
      rw [HPP.out]
      exact (Touch.below HB2.out).trans e2 (.inl rfl)

set_option maxHeartbeats 4000000 in
set_option maxRecDepth 100000 in
theorem pushFull_c {q : Nat} {p : Option Addr} {R : List Int} {f k : Nat} {xs : List Int} {w : World} (x : Int) (h : QueS w q p R f k xs) (hlt : ¬ xs.length < k) :
    Calls Try.prog 9 #[.pointer (some ⟨q, 0, none⟩), .int .i64 x] w fun e w' => e = .returned (.int .i64 14) ∧ G w w' := by
  have mixed : Try.prog.follows .mixedOrders = true := by kernel_rfl
  have hd1 : decide ((xs.length : Int) ≥ (k : Int)) = true := decide_eq_true (by omega)
  have hd2 : (k : Int) ≤ (xs.length : Int) := by omega
  obtain ⟨_, _, c2, c3⟩ := cell_four h.box
  clear h hlt
  obtain ⟨n, hnn⟩ : ∃ n, xs.length = n := ⟨_, rfl⟩
  rw [hnn] at hd1 hd2 c2
  clear hnn
  go_enter Try.func9, Try.ntmps9
  go_wp2_with fail
  go_quiet (fail)
  go_wp2
  go_ret
  exact ⟨rfl, G.drew _ _⟩
set_option maxHeartbeats 1000000 in
theorem pushNil_c (x : Int) (w : World) : Calls Try.prog 9 #[.pointer none, .int .i64 x] w fun e w' => e = .returned (.int .i64 1) ∧ w = w' := by
  go_enter Try.func9, Try.ntmps9
  go_wp2
  go_ret
  exact ⟨rfl, rfl⟩

set_option maxHeartbeats 8000000 in
set_option maxRecDepth 100000 in
theorem pop_c {q : Nat} {p : Option Addr} {R : List Int} {f k : Nat} {x : Int} {xs : List Int} {w : World} (h : QueS w q p R f k (x :: xs)) :
    Calls Try.prog 11 #[.pointer (some ⟨q, 0, none⟩)] w fun e w' => e = .returned (.tuple #[.int .i64 x, .bool true]) ∧ ∃ R' f', QueS w' q p R' f' k xs ∧ Touch q (blk p) w w' := by
  have mixed : Try.prog.follows .mixedOrders = true := by kernel_rfl
  have KP := peek_c h
  have HH := Lib.hid h
  clear h
  go_enter Try.func11, Try.ntmps11
  go_wp2_with fail
  refine KP.mono ?_
  rintro e w1 ⟨rfl, hG⟩
  have hb1 := hG.below
  have h := HH.out.below hb1
  have hlen := h.len
  have hr := h.room
  obtain ⟨c0, c1, c2, _⟩ := cell_four h.box
  obtain ⟨_, hf, hR⟩ := h.ring.head
  obtain ⟨g, hg⟩ : ∃ g, blk p = some g := by
    rcases h.row with ⟨_, h0⟩ | ⟨g, e, _⟩
    · omega
    · exact ⟨g, by rw [e]; rfl⟩
  obtain ⟨rfl, hrow⟩ := h.at hg
  have r0 : ∃ u, w1.cell? ⟨g, f, none⟩ = some u := by
    rw [rowO_cell hrow, List.getElem?_eq_getElem hf]
    exact ⟨_, rfl⟩
  obtain ⟨u, r0⟩ := r0
  have z0 := frozen_of_row _ g f _ _ hrow
  have z1 := frozen_of_row _ q 1 _ _ h.box
  have z2 := frozen_of_row _ q 2 _ _ h.box
  have hne := h.ne hg
  have KPL := Lib.hid (place_g q (some ⟨g, 0, none⟩) R.length f 1 (w1.drew.setCell ⟨g, f, none⟩ (.int .i64 0)) ((st_cell hne).trans c0) ((st_cell hne).trans c1) (by omega) (by omega) (by omega) (by omega))
  have t1 : (w1.drew.setCell ⟨g, f, none⟩ (.int .i64 0)).cell? ⟨q, 1, none⟩ = some (.int .i64 f) := (st_cell hne).trans c1
  have t2 : (w1.drew.setCell ⟨g, f, none⟩ (.int .i64 0)).cell? ⟨q, 2, none⟩ = some (.int .i64 (x :: xs).length) := (st_cell hne).trans c2
  have y1 : (w1.drew.setCell ⟨g, f, none⟩ (.int .i64 0)).frozen? ⟨q, 1, none⟩ = false := (st_frz hne).trans z1
  have y2 : (w1.drew.setCell ⟨g, f, none⟩ (.int .i64 0)).frozen? ⟨q, 2, none⟩ = false := (st_frz hne).trans z2
  have HV := Lib.hid (And.intro hg (show Below w.heap.size w w1.drew from bT2 hb1 (G.drew w1 1).below))
  obtain ⟨m, hm⟩ : ∃ m, (f + 1) % R.length = m := ⟨_, rfl⟩
  obtain ⟨L, hL⟩ : ∃ L, R.length = L := ⟨_, rfl⟩
  obtain ⟨n, hn⟩ : ∃ n, xs.length = n := ⟨_, rfl⟩
  rw [hm] at KPL
  rw [hL] at hf c0
  obtain ⟨n1, hn1⟩ : ∃ n1, (x :: xs).length = n1 := ⟨_, rfl⟩
  rw [hn1] at t2
  have hfz : (f : Int) < (L : Int) := by omega
  have ri : IntKind.i64.wrap ((n1 : Int) - 1) = (n : Int) := by
    rw [List.length_cons] at hn1 hlen
    rw [IntKind.wrap_i64] <;> omega
  have HM := Lib.hid (And.intro hm hn)
  clear hlen hr hg hrow hm hL hn hf hR h hb1 hG KP c2 z1 z2 hne hn1
  go_wp2_with fail
  go_big_region_o
  clear c0 c1 r0 z0
  go_wp2_with fail
  refine KPL.out.mono ?_
  rintro e w8 ⟨rfl, hG⟩
  have hb8 := G.below hG
  have d1 := kc' hb8 t1
  have d2 := kc' hb8 t2
  have e1 := frz hb8 t1 y1
  have e2 := frz hb8 t2 y2
  have H8 := Lib.hid hb8
  clear hb8 hG t1 t2 y1 y2 KPL
  go_wp2
  refine bodyPost_ret (results_tmp2 rfl _ _ _) rfl ?_
  obtain ⟨hg, hb⟩ := HV.out
  obtain ⟨hm, hn⟩ := HM.out
  obtain ⟨k1, k2⟩ := pop_end HH.out hg hb (by have := H8.out; rwa [show (w1.drew.setCell ⟨g, f, none⟩ (.int .i64 0)).heap.size = w1.drew.heap.size from by simp] at this) hm hn
  exact ⟨rfl, _, _, k1, k2⟩
set_option maxHeartbeats 1000000 in
theorem popNo_c {q : Nat} {w : World} (c2 : w.cell? ⟨q, 2, none⟩ = some (.int .i64 0)) :
    Calls Try.prog 11 #[.pointer (some ⟨q, 0, none⟩)] w fun e w' => e = .returned (.tuple #[.int .i64 0, .bool false]) ∧ w = w' := by
  have KP := peekNo_c c2
  go_enter Try.func11, Try.ntmps11
  go_wp2_with fail
  refine KP.mono ?_
  rintro e w1 ⟨rfl, rfl⟩
  clear KP
  go_wp2
  refine bodyPost_ret (results_tmp2 rfl _ _ _) rfl ?_
  exact ⟨rfl, rfl⟩
set_option maxHeartbeats 1000000 in
theorem popNil_c (w : World) : Calls Try.prog 11 #[.pointer none] w fun e w' => e = .returned (.tuple #[.int .i64 0, .bool false]) ∧ w = w' := by
  have KP := peekNil_c w
  go_enter Try.func11, Try.ntmps11
  go_wp2_with fail
  refine KP.mono ?_
  rintro e w1 ⟨rfl, rfl⟩
  clear KP
  go_wp2
  refine bodyPost_ret (results_tmp2 rfl _ _ _) rfl ?_
  exact ⟨rfl, rfl⟩
end Go.Proofs.Ytgolbeoaomgmcaa
