/-
  The law BagPlays over this seat's translation: every call, in every order, answers what the document says. Conditions: those that each theorem states.
-/
import Derived.Test.YtfjipkkhjjpaiaaRefDrop
import Derived.Test.YtfjipkkhjjpaiaaDropT
import Derived.Test.YtfjipkkhjjpaiaaFrameA
import Derived.OwnWalk
import Derived.Deep.QuietTactic
import Derived.BigQuiet
import Derived.Deep.RegionHeld3
namespace Go.Proofs.Ytfjipkkhjjpaiaa
open Go.RowKit Go.Shelf Go.Lib Go.Sort St

/-- Between two calls: the bag in block b holds what the list mv holds, in rows of their own. -/
structure PlaysI (w W : World) (b : Nat) (sv mv : Value) (xs : List It) : Prop where
  below : Below w.heap.size w W
  own : OwnT W w.heap.size b sv xs
  row : W.ownsRow w.heap.size 41 2 mv xs.length (xs.flatMap It.cells)
  apart : ∀ g, mv.ownBlock = some g → sv.ownBlock ≠ some g
theorem PlaysI.on {w W W' : World} {b : Nat} {sv mv : Value} {xs : List It} (h : PlaysI w W b sv mv xs) (hb : Below W.heap.size W W') : PlaysI w W' b sv mv xs :=
  ⟨bT' h.below hb h.below.size, h.own.below hb, row_below h.row hb, h.apart⟩
theorem row_up {W : World} {B B' : Nat} {v : Value} {n : Nat} {xs : List Value} (h : W.ownsRow B 41 2 v n xs) (hB : B' ≤ B) : W.ownsRow B' 41 2 v n xs := ⟨h.1, h.2.imp id fun ⟨g, cap, cur, e, hg, r⟩ => ⟨g, cap, cur, e, by omega, r⟩⟩
/-- The bag's block is none of the row's. -/
theorem PlaysI.box_ne {w W : World} {b : Nat} {sv mv : Value} {xs : List It} (h : PlaysI w W b sv mv xs) : ∀ g, mv.ownBlock = some g → g ≠ b := by
  intro g e
  rcases h.row.2 with ⟨e2, _⟩ | ⟨g', cap, cur, e2, _, hg, _⟩
  · rw [e2] at e; cases e
  · rw [e2] at e
    simp [Value.ownBlock] at e
    subst e
    rintro rfl
    have := hg.symm.trans h.own.bag.box
    simp at this
/-- What a call on the bag leaves of the list. -/
theorem PlaysI.touch {w W W' : World} {b : Nat} {sv mv : Value} {xs : List It} (h : PlaysI w W b sv mv xs) (ht : Touch b sv.ownBlock W W') : W'.ownsRow w.heap.size 41 2 mv xs.length (xs.flatMap It.cells) ∧ Below w.heap.size w W' := by
  refine ⟨⟨h.row.1, ?_⟩, h.below.trans (ht.below_of h.below.size h.own.base h.own.row)⟩
  rcases h.row.2 with h3 | ⟨g, cap, cur, e, hB, hg, rest⟩
  · exact .inl h3
  · have hb : mv.ownBlock = some g := by rw [e]; rfl
    exact .inr ⟨g, cap, cur, e, hB, (ht.block g (Array.getElem?_eq_some_iff.1 hg).1 (h.box_ne g hb) (fun e => h.apart g hb e.symm)).trans hg, rest⟩
theorem InList.acts {W : World} {p : Option Addr} {ys : List Ac} (h : InList cA W p ys) (h0 : 0 < ys.length) : ∃ gl off, p = some ⟨gl, off, none⟩ ∧ ∀ i (hi : i < ys.length), W.cell? ⟨gl, off + i * 3, none⟩ = some (.int .u8 ys[i].1) ∧ W.cell? ⟨gl, off + i * 3 + 1, none⟩ = some (.int .i64 ys[i].2.1) ∧ W.cell? ⟨gl, off + i * 3 + 2, none⟩ = some (.int .i64 ys[i].2.2) := by
  rcases h with rfl | ⟨gl, off, rfl, hc⟩
  · simp at h0
  · refine ⟨gl, off, rfl, fun i hi => ⟨?_, ?_, ?_⟩⟩
    · exact hc (i * 3) _ (by have := flat_get cA_len ys i 0 hi (by omega); rw [Nat.add_zero] at this; exact this)
    · rw [Nat.add_assoc]; exact hc (i * 3 + 1) _ (flat_get cA_len ys i 1 hi (by omega))
    · rw [Nat.add_assoc]; exact hc (i * 3 + 2) _ (flat_get cA_len ys i 2 hi (by omega))
theorem row_items2 {W : World} {B : Nat} {p : Option Addr} {n cap : Nat} {xs : List It} (hn : n = xs.length) (h : W.ownsRow B 41 2 (.slice p n cap) xs.length (xs.flatMap It.cells)) : ∀ i (hi : i < xs.length), ∃ g, p = some ⟨g, 0, none⟩ ∧ W.cell? ⟨g, i * 2, none⟩ = some (.int .i64 xs[i].1) ∧ W.cell? ⟨g, i * 2 + 1, none⟩ = some (.int .i64 xs[i].2) := by
  subst hn
  obtain ⟨p', c', e, h'⟩ := row_items h
  cases e
  exact h'
set_option maxHeartbeats 4000000 in
theorem atOut_T (b B : Nat) (xs : List It) (i : Int) (hi : i < 0 ∨ (xs.length : Int) ≤ i) (W : World) (h : BagT W b B xs) : Calls Try.prog 25 #[.pointer (some ⟨b, 0, none⟩), .int .i64 i] W fun e w' => e = .returned (.tuple #[.agg #[.int .i64 0, .int .i64 0], .bool false]) ∧ Below W.heap.size W w' := by
  obtain ⟨W1, hW1⟩ : ∃ W1, W.alloc (.cells #[.int .i64 0, .int .i64 0] 41) = W1 := ⟨_, rfl⟩
  have WB : Below W.heap.size W W1 := hW1 ▸ bA' (Below.refl _ _) (Nat.le_refl _) _
  have hnew : W1.heap[W.heap.size]? = some (.cells #[.int .i64 0, .int .i64 0] 41 (0, 0)) := hW1 ▸ heap_alloc_new W _
  have K := Lib.hid (len_T b B xs W1 (h.below WB))
  have hb2 := bA' (Below.refl W1.heap.size W1) (Nat.le_refl _) (.cells #[.int .i64 0, .int .i64 0] 41)
  have hnew2 := (hb2.block _ (Array.getElem?_eq_some_iff.1 hnew).1).trans hnew
  obtain ⟨z0, z1, zf1⟩ := cell_two hnew2
  have zf0 : (W1.alloc (.cells #[.int .i64 0, .int .i64 0] 41)).frozen? ⟨W.heap.size, 0, none⟩ = false := by simp [World.frozen?, hnew2]
  have y0 : (W1.alloc (.cells #[.int .i64 0, .int .i64 0] 41)).cell? ⟨W1.heap.size, 0, none⟩ = some (.int .i64 0) := by go_simp
  have y1 : (W1.alloc (.cells #[.int .i64 0, .int .i64 0] 41)).cell? ⟨W1.heap.size, 1, none⟩ = some (.int .i64 0) := by go_simp
  have HB := Lib.hid (show Below W.heap.size W (((W1.alloc (.cells #[.int .i64 0, .int .i64 0] 41)).setCell ⟨W.heap.size, 0, none⟩ (.int .i64 0)).setCell ⟨W.heap.size, 1, none⟩ (.int .i64 0)) from ((bA' WB WB.size _).setCell (Nat.le_refl _) _).setCell (Nat.le_refl _) _)
  have HB1 := Lib.hid (show Below W.heap.size W (W1.alloc (.cells #[.int .i64 0, .int .i64 0] 41)) from bA' WB WB.size _)
  have HE := Lib.hid (show (((W1.alloc (.cells #[.int .i64 0, .int .i64 0] 41)).setCell ⟨W.heap.size, 0, none⟩ (.int .i64 0)).setCell ⟨W.heap.size, 1, none⟩ (.int .i64 0)).cell? ⟨W.heap.size, 0, none⟩ = some (.int .i64 0) from by
    rw [World.cell?_setCell_other _ _ _ _ (by simp)]
    exact World.cell?_setCell_same _ _ _ z0)
  have HE1 := Lib.hid (show (((W1.alloc (.cells #[.int .i64 0, .int .i64 0] 41)).setCell ⟨W.heap.size, 0, none⟩ (.int .i64 0)).setCell ⟨W.heap.size, 1, none⟩ (.int .i64 0)).cell? ⟨W.heap.size, 1, none⟩ = some (.int .i64 0) from
    World.cell?_setCell_same' _ _ _ (by rw [World.cell?_setCell_other _ _ _ _ (by simp), z1]; rfl))
  have HW := Lib.hid hW1
  clear h hb2 hnew hnew2 hW1 WB
  go_enter Try.func25, Try.ntmps25
  by_cases h0 : i < 0
  · have hd1 : decide (i < 0) = true := decide_eq_true h0
    go_wp2_with fail
    rw [HW.out]
    go_wp2
    refine bodyPost_ret (v := .tuple #[.agg #[.int .i64 0, .int .i64 0], .bool false]) ?_ rfl ⟨rfl, HB1.out⟩
    have hres : Try.f25.results = #[.cell 4 41, .tmp 5] := rfl
    simp only [results, hres]
    go_simp
  · have hd1 : decide (i < 0) = false := decide_eq_false h0
    have hd2 : decide ((xs.length : Int) ≤ i) = true := decide_eq_true (by omega)
    have hd3 : (xs.length : Int) ≤ i := by omega
    go_wp2_with fail
    rw [HW.out]
    refine K.out.mono ?_
    rintro e w1 ⟨rfl, rfl⟩
    go_wp2
    have e0 := HE.out
    have e1 := HE1.out
    generalize ((w1.alloc (.cells #[.int .i64 0, .int .i64 0] 41)).setCell ⟨W.heap.size, 0, none⟩ (.int .i64 0)).setCell ⟨W.heap.size, 1, none⟩ (.int .i64 0) = w2 at *
    refine bodyPost_ret (v := .tuple #[.agg #[.int .i64 0, .int .i64 0], .bool false]) ?_ rfl ⟨rfl, HB.out⟩
    have hres : Try.f25.results = #[.cell 4 41, .tmp 5] := rfl
    simp only [results, hres]
    go_simp
theorem rsameT (xs : List It) (pa pb : Option Addr) (ca cb : Nat) (W : World) (hn : xs.length ≤ 1000000)
    (hx : ∀ i (hi : i < xs.length), ∃ g, pa = some ⟨g, 0, none⟩ ∧ W.cell? ⟨g, i * 2, none⟩ = some (.int .i64 xs[i].1) ∧ W.cell? ⟨g, i * 2 + 1, none⟩ = some (.int .i64 xs[i].2))
    (hy : ∀ i (hi : i < xs.length), ∃ g, pb = some ⟨g, 0, none⟩ ∧ W.cell? ⟨g, i * 2, none⟩ = some (.int .i64 xs[i].1) ∧ W.cell? ⟨g, i * 2 + 1, none⟩ = some (.int .i64 xs[i].2)) :
    Calls Try.prog 27 #[.slice pa xs.length ca, .slice pb xs.length cb] W fun e w' => e = .returned (.bool true) ∧ Below W.heap.size W w' :=
  (rsame_c xs xs pa pb ca cb W hn hx hy).mono fun _ _ h => ⟨by rw [h.1]; simp, h.2⟩
theorem below_d3 {B : Nat} {a w : World} (h : Below B a w) (n : Nat) : Below B a (w.drewN n) := ⟨h.os, h.tape, h.output, h.size, h.block⟩

set_option maxRecDepth 1000000 in
set_option maxHeartbeats 32000000 in
theorem plays_c (q : Option Addr) (cap : Nat) (ys : List Ac) (w : World) (hy : InList cA w q ys) (hyb : ∀ y ∈ ys, 0 ≤ y.1 ∧ y.1 ≤ 255) :
    Calls Try.prog 5 #[.slice q ys.length cap] w fun e w' => e = .returned (.bool true) ∧ Below w.heap.size w w' := by
  have mixed : Try.prog.follows .mixedOrders = true := by kernel_rfl
  have KA := Lib.hid fun (W : World) => awake_c W
  have HY := Lib.hid (And.intro hy hyb)
  clear hy hyb
  go_enter Try.func5, Try.ntmps5
  go_wp2_with fail
  refine (KA.out _).mono ?_
  rintro e w1 ⟨rfl, hb1⟩
  have HB1 := Lib.hid hb1
  clear hb1
  by_cases hlen : ys.length ≤ 200
  · have hd : decide ((ys.length : Int) > 200) = false := decide_eq_false (by omega)
    have KN := Lib.hid (new_T 0 none [] w1 (.inl rfl) (by decide))
    go_wp2_with fail
    refine KN.out.mono ?_
    rintro e w2 ⟨hb2, b, sv0, R, rfl, hown, hins⟩
    obtain rfl : R = [] := List.eq_nil_of_length_eq_zero (by have := hins.len; simpa using this)
    have H2 := Lib.hid (show PlaysI w w2 b sv0 (.slice none 0 0) [] from ⟨bT' HB1.out hb2 HB1.out.size, hown.mono HB1.out.size, World.ownsRow_nil _ _ _ _, fun g e => by cases e⟩)
    clear hb2 hown hins KN HB1
    go_wp2
    go_loopw [4, 5] (fun mv iv wr => ∃ (i : Nat) (xs : List It) (sv : Value), iv = .int .i64 i ∧ i ≤ ys.length ∧ xs.length ≤ i ∧ Hid (PlaysI w wr b sv mv xs)) (fun _ v _ => ys.length - (intOf v).toNat)
    case atStart => exact ⟨0, [], sv0, rfl, Nat.zero_le _, Nat.le_refl _, H2⟩
    case round =>
      obtain ⟨i, xs, sv, rfl, hi, hxs, HP⟩ := hrel
      by_cases hlt : i < ys.length
      · have hiz : (i : Int) < (ys.length : Int) := by omega
        have hp := HP.out
        obtain ⟨gl, off, rfl, hcells⟩ := (HY.out.1.below hp.below).acts (by omega)
        obtain ⟨c0, c1, c2⟩ := hcells i hlt
        have hdb := HY.out.2 ys[i] (List.getElem_mem hlt)
        obtain ⟨⟨d, x⟩, hd0⟩ : ∃ y : Ac, ys[i] = y := ⟨_, rfl⟩
        rw [hd0] at c0 c1 c2 hdb
        obtain ⟨xa, xb⟩ := x
        dsimp only at c0 c1 c2 hdb
        obtain ⟨mp, mc, rfl, hmx⟩ := row_items hp.row
        have hbX : Below wr.heap.size wr (wr.alloc (.cells #[.int .i64 xa, .int .i64 xb] 41)) := bA' (Below.refl _ _) (Nat.le_refl _) _
        have HPX := Lib.hid (hp.on hbX)
        have HX := Lib.hid (show (wr.alloc (.cells #[.int .i64 xa, .int .i64 xb] 41)).heap[wr.heap.size]? = some (.cells #[.int .i64 xa, .int .i64 xb] 41 (0, 0)) from World.alloc_heap_new wr _)
        have HM := Lib.hid (show ∀ i (hi : i < xs.length), ∃ g, mp = some ⟨g, 0, none⟩ ∧ (wr.alloc (.cells #[.int .i64 xa, .int .i64 xb] 41)).cell? ⟨g, i * 2, none⟩ = some (.int .i64 xs[i].1) ∧ (wr.alloc (.cells #[.int .i64 xa, .int .i64 xb] 41)).cell? ⟨g, i * 2 + 1, none⟩ = some (.int .i64 xs[i].2) from fun i hi => (hmx i hi).imp fun g h => ⟨h.1, kc' hbX h.2.1, kc' hbX h.2.2⟩)
        have hsX : (wr.alloc (.cells #[.int .i64 xa, .int .i64 xb] 41)).heap.size = wr.heap.size + 1 := World.size_alloc _ _
        have hbw := hp.own.bag.lt
        have c0 := kc' hbX c0
        have hr0 : Int.tmod d 6 = d % 6 := Int.tmod_eq_emod_of_nonneg hdb.1
        have hr : ∃ r : Int, Int.tmod d 6 = r ∧ (r = 0 ∨ r = 1 ∨ r = 2 ∨ r = 3 ∨ r = 4 ∨ r = 5) := ⟨_, rfl, by rw [hr0]; omega⟩
        obtain ⟨r, hr1, hr2⟩ := hr
        have hw8 : IntKind.u8.wrap r = r := by rcases hr2 with rfl | rfl | rfl | rfl | rfl | rfl <;> decide
        clear hd0 hcells hbX hmx hp hr0
        rcases hr2 with rfl | rfl | rfl | rfl | rfl | rfl
        · go_wp2_with fail
          generalize wr.alloc (.cells #[.int .i64 xa, .int .i64 xb] 41) = WX at *
          have hbL := bA' (Below.refl WX.heap.size WX) (Nat.le_refl _) (.cells #[.int .i64 xa, .int .i64 xb] 41)
          have hin := lit_in WX [(xa, xb)] #[.int .i64 xa, .int .i64 xb] rfl
          have hsL : (WX.alloc (.cells #[.int .i64 xa, .int .i64 xb] 41)).heap.size = wr.heap.size + 2 := by rw [World.size_alloc, hsX]
          rw [hsX] at hin
          have HPL := Lib.hid (HPX.out.on hbL)
          have HXL := Lib.hid ((hbL.block _ (Array.getElem?_eq_some_iff.1 HX.out).1).trans HX.out)
          have KP := Lib.hid (put_T b 1 _ sv xs [(xa, xb)] _ HPL.out.own.bag hin (by simp only [List.length_cons, List.length_nil]; omega))
          clear hbL hin
          generalize WX.alloc (.cells #[.int .i64 xa, .int .i64 xb] 41) = WL at *
          refine KP.out.mono ?_
          rintro e w3 ⟨rfl, sv3, R3, hbag3, hins3, hrow3, ht3⟩
          obtain rfl := hins3.putL HPL.out.own.bag.srt
          have hm3 := HPL.out.touch ht3
          have hx3 := (ht3.block wr.heap.size (by omega) (by omega) (fun e => by have := hbw.2 _ e.symm; omega)).trans HXL.out
          obtain ⟨x0, x1, _⟩ := cell_two hx3
          have KR := Lib.hid (rput_c xs (xa, xb) mp mc w3 (by omega) (row_items2 rfl hm3.1))
          have hrow3' : ∀ g, sv3.ownBlock = some g → w.heap.size ≤ g := fun g e => by
            rcases hrow3 with h | h
            · rw [h] at e; exact HPL.out.own.row g e
            · have := h g e; have := HPL.out.below.size; omega
          have HK := Lib.hid (And.intro hbag3 (And.intro hm3.2 hrow3'))
          clear hbag3 hins3 hrow3 ht3 hm3 hx3 hrow3' KP
          go_wp2_with fail
          refine KR.out.mono ?_
          rintro e w4 ⟨ov, rfl, hrow4, hb4⟩
          have HS := Lib.hid (show PlaysI w w4 b sv3 ov (putL xs (xa, xb)) from ⟨bT' HK.out.2.1 hb4 HK.out.2.1.size, ⟨HK.out.1.below hb4, HPL.out.own.base, HK.out.2.2⟩, row_up hrow4 HK.out.2.1.size, fun g e e2 => by
            have h1 := (hrow4.lt g e).1
            have h2 := HK.out.1.lt.2 g e2
            omega⟩)
          clear hrow4 hb4 x0 x1 KR
          obtain ⟨mp9, mc9, rfl, hmx9⟩ := row_items HS.out.row
          have HLEN := Lib.hid (show (putL xs (xa, xb)).length ≤ i + 1 from by rw [putL_len]; omega)
          have hln : (putL xs (xa, xb)).length ≤ 1000 := by have := HLEN.out; omega
          have KL := Lib.hid (len_T b 0 (putL xs (xa, xb)) w4 HS.out.own.bag.bag)
          have KT := Lib.hid (list_c b 0 (putL xs (xa, xb)) w4 HS.out.own.bag.bag (by omega))
          have HMX := Lib.hid hmx9
          clear hmx9
          go_wp2_with fail
          refine KL.out.mono ?_
          rintro e W9 ⟨rfl, rfl⟩
          go_wp2_with fail
          refine KT.out.mono ?_
          rintro e W10 ⟨ov10, rfl, hrow10, hb10⟩
          obtain ⟨p10, k10, rfl, hx10⟩ := row_items hrow10
          have KS := Lib.hid (rsameT (putL xs (xa, xb)) p10 mp9 k10 mc9 W10 (by omega) hx10 (fun i hi => (HMX.out i hi).imp fun g h => ⟨h.1, kc' hb10 h.2.1, kc' hb10 h.2.2⟩))
          have HS10 := Lib.hid (HS.out.on hb10)
          clear hrow10 hb10 hx10 KL KT
          go_wp2_with fail
          refine KS.out.mono ?_
          rintro e W11 ⟨rfl, hb11⟩
          have HS11 := Lib.hid (HS10.out.on hb11)
          clear hb11 KS
          go_wp2
          exact ⟨⟨i + 1, (putL xs (xa, xb)), sv3, by go_num, by omega, HLEN.out, HS11⟩, by simp [intOf]; omega⟩
        · go_wp2_with fail
          generalize wr.alloc (.cells #[.int .i64 xa, .int .i64 xb] 41) = WX at *
          have hbL := bA' (Below.refl WX.heap.size WX) (Nat.le_refl _) (.cells #[.int .i64 xa, .int .i64 xb] 41)
          have hin := lit_in WX [(xa, xb)] #[.int .i64 xa, .int .i64 xb] rfl
          have hsL : (WX.alloc (.cells #[.int .i64 xa, .int .i64 xb] 41)).heap.size = wr.heap.size + 2 := by rw [World.size_alloc, hsX]
          rw [hsX] at hin
          have HPL := Lib.hid (HPX.out.on hbL)
          have HXL := Lib.hid ((hbL.block _ (Array.getElem?_eq_some_iff.1 HX.out).1).trans HX.out)
          have KP := Lib.hid (put_T b 1 _ sv xs [(xa, xb)] _ HPL.out.own.bag hin (by simp only [List.length_cons, List.length_nil]; omega))
          clear hbL hin
          generalize WX.alloc (.cells #[.int .i64 xa, .int .i64 xb] 41) = WL at *
          refine KP.out.mono ?_
          rintro e w3 ⟨rfl, sv3, R3, hbag3, hins3, hrow3, ht3⟩
          obtain rfl := hins3.putL HPL.out.own.bag.srt
          have hm3 := HPL.out.touch ht3
          have hx3 := (ht3.block wr.heap.size (by omega) (by omega) (fun e => by have := hbw.2 _ e.symm; omega)).trans HXL.out
          obtain ⟨x0, x1, _⟩ := cell_two hx3
          have KR := Lib.hid (rput_c xs (xa, xb) mp mc w3 (by omega) (row_items2 rfl hm3.1))
          have hrow3' : ∀ g, sv3.ownBlock = some g → w.heap.size ≤ g := fun g e => by
            rcases hrow3 with h | h
            · rw [h] at e; exact HPL.out.own.row g e
            · have := h g e; have := HPL.out.below.size; omega
          have HK := Lib.hid (And.intro hbag3 (And.intro hm3.2 hrow3'))
          clear hbag3 hins3 hrow3 ht3 hm3 hx3 hrow3' KP
          go_wp2_with fail
          refine KR.out.mono ?_
          rintro e w4 ⟨ov, rfl, hrow4, hb4⟩
          have HS := Lib.hid (show PlaysI w w4 b sv3 ov (putL xs (xa, xb)) from ⟨bT' HK.out.2.1 hb4 HK.out.2.1.size, ⟨HK.out.1.below hb4, HPL.out.own.base, HK.out.2.2⟩, row_up hrow4 HK.out.2.1.size, fun g e e2 => by
            have h1 := (hrow4.lt g e).1
            have h2 := HK.out.1.lt.2 g e2
            omega⟩)
          clear hrow4 hb4 x0 x1 KR
          obtain ⟨mp9, mc9, rfl, hmx9⟩ := row_items HS.out.row
          have HLEN := Lib.hid (show (putL xs (xa, xb)).length ≤ i + 1 from by rw [putL_len]; omega)
          have hln : (putL xs (xa, xb)).length ≤ 1000 := by have := HLEN.out; omega
          have KL := Lib.hid (len_T b 0 (putL xs (xa, xb)) w4 HS.out.own.bag.bag)
          have KT := Lib.hid (list_c b 0 (putL xs (xa, xb)) w4 HS.out.own.bag.bag (by omega))
          have HMX := Lib.hid hmx9
          clear hmx9
          go_wp2_with fail
          refine KL.out.mono ?_
          rintro e W9 ⟨rfl, rfl⟩
          go_wp2_with fail
          refine KT.out.mono ?_
          rintro e W10 ⟨ov10, rfl, hrow10, hb10⟩
          obtain ⟨p10, k10, rfl, hx10⟩ := row_items hrow10
          have KS := Lib.hid (rsameT (putL xs (xa, xb)) p10 mp9 k10 mc9 W10 (by omega) hx10 (fun i hi => (HMX.out i hi).imp fun g h => ⟨h.1, kc' hb10 h.2.1, kc' hb10 h.2.2⟩))
          have HS10 := Lib.hid (HS.out.on hb10)
          clear hrow10 hb10 hx10 KL KT
          go_wp2_with fail
          refine KS.out.mono ?_
          rintro e W11 ⟨rfl, hb11⟩
          have HS11 := Lib.hid (HS10.out.on hb11)
          clear hb11 KS
          go_wp2
          exact ⟨⟨i + 1, (putL xs (xa, xb)), sv3, by go_num, by omega, HLEN.out, HS11⟩, by simp [intOf]; omega⟩
        · have KR := Lib.hid (rdrop_c xs xa mp mc _ (by omega) HM.out)
          obtain ⟨x0, x1, _⟩ := cell_two HX.out
          go_wp2_with fail
          generalize wr.alloc (.cells #[.int .i64 xa, .int .i64 xb] 41) = WX at *
          refine KR.out.mono ?_
          rintro e w3 ⟨ov, rfl, hrow3, hb3⟩
          have HP3 := Lib.hid (HPX.out.on hb3)
          have y0 := kc' hb3 x0
          have y1 := kc' hb3 x1
          have hsb := hb3.size
          have KD := Lib.hid (drop_T b sv xs (xa, xb) w3 HP3.out.own.bag (by omega))
          have HR3 := Lib.hid (And.intro hrow3 hb3)
          clear x0 x1 hrow3 hb3 KR
          generalize xs.any (fun y => y.1 == xa) = an at *
          go_wp2_with fail
          refine KD.out.mono ?_
          rintro e w4 ⟨rfl, sv4, hbag4, hro4, ht4⟩
          have hm4 := HP3.out.touch ht4
          have HS := Lib.hid (show PlaysI w w4 b sv4 ov (xs.eraseP fun y => y.1 == xa) from ⟨hm4.2, ⟨hbag4, HPX.out.own.base, fun g e => HPX.out.own.row g (by rw [← hro4]; exact e)⟩, ⟨HR3.out.1.1, HR3.out.1.2.imp id (fun ⟨g, cap, cur, e, hB, hg, rest⟩ => ⟨g, cap, cur, e, by have := HPX.out.below.size; omega, (ht4.block g (Array.getElem?_eq_some_iff.1 hg).1 (by omega) (fun e2 => by have := hbw.2 g e2.symm; omega)).trans hg, rest⟩)⟩, fun g e e2 => by
            have h1 := (HR3.out.1.lt g e).1
            have h2 := hbw.2 g (by rw [← hro4]; exact e2)
            omega⟩)
          clear hbag4 hro4 ht4 hm4 y0 y1 KD
          obtain ⟨mp9, mc9, rfl, hmx9⟩ := row_items HS.out.row
          have HLEN := Lib.hid (show (xs.eraseP fun y => y.1 == xa).length ≤ i + 1 from Nat.le_trans List.length_eraseP_le (by omega))
          have hln : (xs.eraseP fun y => y.1 == xa).length ≤ 1000 := by have := HLEN.out; omega
          have KL := Lib.hid (len_T b 0 (xs.eraseP fun y => y.1 == xa) w4 HS.out.own.bag.bag)
          have KT := Lib.hid (list_c b 0 (xs.eraseP fun y => y.1 == xa) w4 HS.out.own.bag.bag (by omega))
          have HMX := Lib.hid hmx9
          clear hmx9
          go_wp2_with fail
          refine KL.out.mono ?_
          rintro e W9 ⟨rfl, rfl⟩
          go_wp2_with fail
          refine KT.out.mono ?_
          rintro e W10 ⟨ov10, rfl, hrow10, hb10⟩
          obtain ⟨p10, k10, rfl, hx10⟩ := row_items hrow10
          have KS := Lib.hid (rsameT (xs.eraseP fun y => y.1 == xa) p10 mp9 k10 mc9 W10 (by omega) hx10 (fun i hi => (HMX.out i hi).imp fun g h => ⟨h.1, kc' hb10 h.2.1, kc' hb10 h.2.2⟩))
          have HS10 := Lib.hid (HS.out.on hb10)
          clear hrow10 hb10 hx10 KL KT
          go_wp2_with fail
          refine KS.out.mono ?_
          rintro e W11 ⟨rfl, hb11⟩
          have HS11 := Lib.hid (HS10.out.on hb11)
          clear hb11 KS
          go_wp2
          exact ⟨⟨i + 1, (xs.eraseP fun y => y.1 == xa), sv4, by go_num, by omega, HLEN.out, HS11⟩, by simp [intOf]; omega⟩
        · obtain ⟨x0, x1, _⟩ := cell_two HX.out
          have K1 := Lib.hid fun (V : World) (hV : Below (wr.alloc (.cells #[.int .i64 xa, .int .i64 xb] 41)).heap.size (wr.alloc (.cells #[.int .i64 xa, .int .i64 xb] 41)) V) => count_T b 0 xs (xa, xb) V (HPX.out.own.bag.below hV).bag (by omega)
          have K2 := Lib.hid fun (V : World) (hV : Below (wr.alloc (.cells #[.int .i64 xa, .int .i64 xb] 41)).heap.size (wr.alloc (.cells #[.int .i64 xa, .int .i64 xb] 41)) V) => rcount_c xs xa mp mc V (by omega) (fun i hi => (HM.out i hi).imp fun g h => ⟨h.1, kc' hV h.2.1, kc' hV h.2.2⟩)
          go_wp2_with fail
          generalize wr.alloc (.cells #[.int .i64 xa, .int .i64 xb] 41) = WX at *
          go_region_held3 (fun w' => w'.cell? ⟨wr.heap.size, 0, none⟩ = some (.int .i64 xa) ∧ w'.cell? ⟨wr.heap.size, 1, none⟩ = some (.int .i64 xb) ∧ Below WX.heap.size WX w')
            (first | exact ⟨x0, x1, Below.drew (Below.refl _ _)⟩ | (go_split_ands; exact ⟨kc' hbn (by assumption), kc' hbn (by assumption), bT2 (by assumption) hbn⟩) | (go_split_ands; exact ⟨by assumption, by assumption, by assumption⟩) | go_keep)
            (first
              | (go_at_call 23; refine (K1.out _ (by repeat (first | with_reducible assumption | with_reducible exact Below.refl _ _ | with_reducible refine Below.drew ?_ | with_reducible refine bT2 ?_ (by assumption)))).mono ?_; rintro e w8 ⟨rfl, hbn⟩)
              | (go_at_call 24; refine (K2.out _ (by repeat (first | with_reducible assumption | with_reducible exact Below.refl _ _ | with_reducible refine Below.drew ?_ | with_reducible refine bT2 ?_ (by assumption)))).mono ?_; rintro e w9 ⟨rfl, rfl⟩))
          all_goals go_split_ands
          all_goals
            have HS := Lib.hid (HPX.out.on (show Below WX.heap.size WX w9 by assumption))
            clear hbn x0 x1 K1 K2
            have hmx9 := row_items2 rfl HS.out.row
            have HLEN := Lib.hid (show xs.length ≤ i + 1 from by omega)
            have hln : xs.length ≤ 1000 := by have := HLEN.out; omega
            have KL := Lib.hid (len_T b 0 xs w9 HS.out.own.bag.bag)
            have KT := Lib.hid (list_c b 0 xs w9 HS.out.own.bag.bag (by omega))
            have HMX := Lib.hid hmx9
            clear hmx9
            go_wp2_with fail
            refine KL.out.mono ?_
            rintro e W9 ⟨rfl, rfl⟩
            go_wp2_with fail
            refine KT.out.mono ?_
            rintro e W10 ⟨ov10, rfl, hrow10, hb10⟩
            obtain ⟨p10, k10, rfl, hx10⟩ := row_items hrow10
            have KS := Lib.hid (rsameT xs p10 mp k10 mc W10 (by omega) hx10 (fun i hi => (HMX.out i hi).imp fun g h => ⟨h.1, kc' hb10 h.2.1, kc' hb10 h.2.2⟩))
            have HS10 := Lib.hid (HS.out.on hb10)
            clear hrow10 hb10 hx10 KL KT
            go_wp2_with fail
            refine KS.out.mono ?_
            rintro e W11 ⟨rfl, hb11⟩
            have HS11 := Lib.hid (HS10.out.on hb11)
            clear hb11 KS
            go_wp2
            exact ⟨⟨i + 1, xs, sv, by go_num, by omega, HLEN.out, HS11⟩, by simp [intOf]; omega⟩
        · obtain ⟨x0, x1, _⟩ := cell_two HX.out
          by_cases hin : 0 ≤ xa ∧ xa < (xs.length : Int)
          · obtain ⟨ix, rfl⟩ : ∃ ix : Nat, xa = (ix : Int) := ⟨xa.toNat, by omega⟩
            have hix : ix < xs.length := by omega
            have KA4 := Lib.hid (at_T b 0 xs ix hix _ HPX.out.own.bag.bag)
            obtain ⟨gm, rfl, m0, m1⟩ := HM.out ix hix
            have hd1 : decide ((ix : Int) ≥ 0) = true := decide_eq_true (by omega)
            have hixz : (ix : Int) < (xs.length : Int) := by omega
            go_wp2_with fail
            generalize wr.alloc (.cells #[.int .i64 ix, .int .i64 xb] 41) = WX at *
            refine KA4.out.mono ?_
            rintro e w3 ⟨rfl, hb3⟩
            generalize xs[ix].1 = va at *
            generalize xs[ix].2 = vb at *
            have hbY := bT2 hb3 (bA' (Below.refl w3.heap.size w3) (Nat.le_refl _) (.cells #[.int .i64 va, .int .i64 vb] 41))
            have m0 := kc' hbY m0
            have m1 := kc' hbY m1
            have x0w := kc' hb3 x0
            have x0y := kc' hbY x0
            have y0 : (w3.alloc (.cells #[.int .i64 va, .int .i64 vb] 41)).cell? ⟨w3.heap.size, 0, none⟩ = some (.int .i64 va) := by go_simp
            have y1 : (w3.alloc (.cells #[.int .i64 va, .int .i64 vb] 41)).cell? ⟨w3.heap.size, 1, none⟩ = some (.int .i64 vb) := by go_simp
            have hbYY := Lib.hid hbY
            clear KA4 x1 hbY hb3
            go_wp2_with fail
            go_quiet (fail)
            have HS := Lib.hid (HPX.out.on (below_d3 hbYY.out nq))
            clear m0 m1 x0 x0w x0y y0 y1
            generalize (w3.alloc (.cells #[.int .i64 va, .int .i64 vb] 41)).drewN nq = WZ at *
            have hmx9 := row_items2 rfl HS.out.row
            have HLEN := Lib.hid (show xs.length ≤ i + 1 from by omega)
            have hln : xs.length ≤ 1000 := by have := HLEN.out; omega
            have KL := Lib.hid (len_T b 0 xs WZ HS.out.own.bag.bag)
            have KT := Lib.hid (list_c b 0 xs WZ HS.out.own.bag.bag (by omega))
            have HMX := Lib.hid hmx9
            clear hmx9
            go_wp2_with fail
            refine KL.out.mono ?_
            rintro e W9 ⟨rfl, rfl⟩
            go_wp2_with fail
            refine KT.out.mono ?_
            rintro e W10 ⟨ov10, rfl, hrow10, hb10⟩
            obtain ⟨p10, k10, rfl, hx10⟩ := row_items hrow10
            have KS := Lib.hid (rsameT xs p10 (some ⟨gm, 0, none⟩) k10 mc W10 (by omega) hx10 (fun i hi => (HMX.out i hi).imp fun g h => ⟨h.1, kc' hb10 h.2.1, kc' hb10 h.2.2⟩))
            have HS10 := Lib.hid (HS.out.on hb10)
            clear hrow10 hb10 hx10 KL KT
            go_wp2_with fail
            refine KS.out.mono ?_
            rintro e W11 ⟨rfl, hb11⟩
            have HS11 := Lib.hid (HS10.out.on hb11)
            clear hb11 KS
            go_wp2
            exact ⟨⟨i + 1, xs, sv, by go_num, by omega, HLEN.out, HS11⟩, by simp [intOf]; omega⟩
          · have KA4 := Lib.hid (atOut_T b 0 xs xa (by omega) _ HPX.out.own.bag.bag)
            by_cases hneg : 0 ≤ xa
            · have hd1 : decide (xa ≥ 0) = true := decide_eq_true hneg
              have hd2 : decide (xa < (xs.length : Int)) = false := decide_eq_false (by omega)
              go_wp2_with fail
              generalize wr.alloc (.cells #[.int .i64 xa, .int .i64 xb] 41) = WX at *
              refine KA4.out.mono ?_
              rintro e w3 ⟨rfl, hb3⟩
              have hbY := bT2 hb3 (bA' (Below.refl w3.heap.size w3) (Nat.le_refl _) (.cells #[.int .i64 0, .int .i64 0] 41))
              have x0y := kc' hbY x0
              have x0w := kc' hb3 x0
              have HS := Lib.hid (HPX.out.on hbY)
              have y0 : (w3.alloc (.cells #[.int .i64 0, .int .i64 0] 41)).cell? ⟨w3.heap.size, 0, none⟩ = some (.int .i64 0) := by go_simp
              have y1 : (w3.alloc (.cells #[.int .i64 0, .int .i64 0] 41)).cell? ⟨w3.heap.size, 1, none⟩ = some (.int .i64 0) := by go_simp
              clear KA4 x1 hbY hb3
              go_wp2_with fail
              clear x0 x0y x0w y0 y1
              generalize w3.alloc (.cells #[.int .i64 0, .int .i64 0] 41) = WZ at *
              have hmx9 := row_items2 rfl HS.out.row
              have HLEN := Lib.hid (show xs.length ≤ i + 1 from by omega)
              have hln : xs.length ≤ 1000 := by have := HLEN.out; omega
              have KL := Lib.hid (len_T b 0 xs WZ HS.out.own.bag.bag)
              have KT := Lib.hid (list_c b 0 xs WZ HS.out.own.bag.bag (by omega))
              have HMX := Lib.hid hmx9
              clear hmx9
              refine KL.out.mono ?_
              rintro e W9 ⟨rfl, rfl⟩
              go_wp2_with fail
              refine KT.out.mono ?_
              rintro e W10 ⟨ov10, rfl, hrow10, hb10⟩
              obtain ⟨p10, k10, rfl, hx10⟩ := row_items hrow10
              have KS := Lib.hid (rsameT xs p10 mp k10 mc W10 (by omega) hx10 (fun i hi => (HMX.out i hi).imp fun g h => ⟨h.1, kc' hb10 h.2.1, kc' hb10 h.2.2⟩))
              have HS10 := Lib.hid (HS.out.on hb10)
              clear hrow10 hb10 hx10 KL KT
              go_wp2_with fail
              refine KS.out.mono ?_
              rintro e W11 ⟨rfl, hb11⟩
              have HS11 := Lib.hid (HS10.out.on hb11)
              clear hb11 KS
              go_wp2
              exact ⟨⟨i + 1, xs, sv, by go_num, by omega, HLEN.out, HS11⟩, by simp [intOf]; omega⟩
            · have hd1 : decide (xa ≥ 0) = false := decide_eq_false hneg
              go_wp2_with fail
              generalize wr.alloc (.cells #[.int .i64 xa, .int .i64 xb] 41) = WX at *
              refine KA4.out.mono ?_
              rintro e w3 ⟨rfl, hb3⟩
              have hbY := bT2 hb3 (bA' (Below.refl w3.heap.size w3) (Nat.le_refl _) (.cells #[.int .i64 0, .int .i64 0] 41))
              have x0y := kc' hbY x0
              have x0w := kc' hb3 x0
              have HS := Lib.hid (HPX.out.on hbY)
              have y0 : (w3.alloc (.cells #[.int .i64 0, .int .i64 0] 41)).cell? ⟨w3.heap.size, 0, none⟩ = some (.int .i64 0) := by go_simp
              have y1 : (w3.alloc (.cells #[.int .i64 0, .int .i64 0] 41)).cell? ⟨w3.heap.size, 1, none⟩ = some (.int .i64 0) := by go_simp
              clear KA4 x1 hbY hb3
              go_wp2_with fail
              clear x0 x0y x0w y0 y1
              generalize w3.alloc (.cells #[.int .i64 0, .int .i64 0] 41) = WZ at *
              have hmx9 := row_items2 rfl HS.out.row
              have HLEN := Lib.hid (show xs.length ≤ i + 1 from by omega)
              have hln : xs.length ≤ 1000 := by have := HLEN.out; omega
              have KL := Lib.hid (len_T b 0 xs WZ HS.out.own.bag.bag)
              have KT := Lib.hid (list_c b 0 xs WZ HS.out.own.bag.bag (by omega))
              have HMX := Lib.hid hmx9
              clear hmx9
              refine KL.out.mono ?_
              rintro e W9 ⟨rfl, rfl⟩
              go_wp2_with fail
              refine KT.out.mono ?_
              rintro e W10 ⟨ov10, rfl, hrow10, hb10⟩
              obtain ⟨p10, k10, rfl, hx10⟩ := row_items hrow10
              have KS := Lib.hid (rsameT xs p10 mp k10 mc W10 (by omega) hx10 (fun i hi => (HMX.out i hi).imp fun g h => ⟨h.1, kc' hb10 h.2.1, kc' hb10 h.2.2⟩))
              have HS10 := Lib.hid (HS.out.on hb10)
              clear hrow10 hb10 hx10 KL KT
              go_wp2_with fail
              refine KS.out.mono ?_
              rintro e W11 ⟨rfl, hb11⟩
              have HS11 := Lib.hid (HS10.out.on hb11)
              clear hb11 KS
              go_wp2
              exact ⟨⟨i + 1, xs, sv, by go_num, by omega, HLEN.out, HS11⟩, by simp [intOf]; omega⟩
        · obtain ⟨x0, x1, _⟩ := cell_two HX.out
          go_wp2_with fail
          generalize wr.alloc (.cells #[.int .i64 xa, .int .i64 xb] 41) = WX at *
          have hbL := bA' (Below.refl WX.heap.size WX) (Nat.le_refl _) (.cells #[.int .i64 xa, .int .i64 xb, .int .i64 xa, .int .i64 xb] 41)
          have hin := lit_in WX [(xa, xb), (xa, xb)] #[.int .i64 xa, .int .i64 xb, .int .i64 xa, .int .i64 xb] rfl
          rw [hsX] at hin
          have KN5 := Lib.hid (new_T 2 _ [(xa, xb), (xa, xb)] _ hin (by simp only [List.length_cons, List.length_nil]; omega))
          have HPL := Lib.hid (HPX.out.on hbL)
          have HXL := Lib.hid ((hbL.block _ (Array.getElem?_eq_some_iff.1 HX.out).1).trans HX.out)
          clear hin hbL x0 x1
          generalize WX.alloc (.cells #[.int .i64 xa, .int .i64 xb, .int .i64 xa, .int .i64 xb] 41) = WL at *
          refine KN5.out.mono ?_
          rintro e w3 ⟨hb3, bc, svc, Rc, rfl, oc, ic⟩
          have HP3 := Lib.hid (HPL.out.on hb3)
          have HX3 := Lib.hid ((hb3.block _ (Array.getElem?_eq_some_iff.1 HXL.out).1).trans HXL.out)
          have hRcl : Rc.length = 2 := ic.len
          have KM := Lib.hid (merge_T b bc sv svc xs Rc w3 HP3.out.own.bag oc.bag (by omega))
          have HIC := Lib.hid ic
          clear hb3 oc ic KN5 HPL HXL
          go_wp2_with fail
          refine KM.out.mono ?_
          rintro e w4 ⟨hb4, bm, svm, Rm, rfl, om, im⟩
          have HP4 := Lib.hid (HP3.out.on hb4)
          obtain ⟨x0, x1, _⟩ := cell_two ((hb4.block _ (Array.getElem?_eq_some_iff.1 HX3.out).1).trans HX3.out)
          have hRm : Rm = putL (putL xs (xa, xb)) (xa, xb) := by
            have hs := HP4.out.own.bag.srt
            have p1 := putL_ins xs (xa, xb) hs
            have p2 := putL_ins (putL xs (xa, xb)) (xa, xb) p1.1
            refine im.unique ⟨by rw [putL_len, putL_len, hRcl], p2.1, fun k => ?_⟩
            have hc := HIC.out.flt k
            rw [p2.2, p1.2, hc, show ([(xa, xb), (xa, xb)] : List It) = [(xa, xb)] ++ [(xa, xb)] from rfl, List.filter_append]
            simp only [List.filter_nil, List.nil_append, List.append_assoc]
          subst hRm
          have hl2 : (putL (putL xs (xa, xb)) (xa, xb)).length = xs.length + 2 := by rw [putL_len, putL_len]
          have hlev : levels_T xs (putL (putL xs (xa, xb)) (xa, xb)) = false := decide_eq_false fun e => by
            have := congrArg List.length e
            rw [List.length_map, List.length_map, hl2] at this
            omega
          have hlev2 : levels_T xs xs = true := decide_eq_true rfl
          have KL5 := Lib.hid fun (V : World) (hV : Below w4.heap.size w4 V) => list_c bm 0 _ V (om.bag.below hV).bag (by omega)
          have KR1 := Lib.hid fun (V : World) (hV : Below w4.heap.size w4 V) => rput_c xs (xa, xb) mp mc V (by omega) (row_items2 rfl (HP4.out.on hV).row)
          have KR2 := Lib.hid fun (p : Option Addr) (c : Nat) (V : World) => rput_c (putL xs (xa, xb)) (xa, xb) p c V (by rw [putL_len]; omega)
          have KSM := Lib.hid fun (p p' : Option Addr) (c c' : Nat) (V : World) => rsameT (putL (putL xs (xa, xb)) (xa, xb)) p p' c c' V (by omega)
          have KB1 := Lib.hid fun (V : World) (hV : Below w4.heap.size w4 V) => by
            have h := same_T b bm sv svm xs _ V (HP4.out.on hV).own.bag (om.bag.below hV) (by omega)
            rw [hlev] at h
            exact h
          have KB2 := Lib.hid fun (V : World) (hV : Below w4.heap.size w4 V) => by
            have h := same_T b b sv sv xs xs V (HP4.out.on hV).own.bag (HP4.out.on hV).own.bag (by omega)
            rw [hlev2] at h
            exact h
          have HL2 := Lib.hid hl2
          clear hb4 om im KM hlev hlev2 hl2 HP3 HX3 hRcl HIC
          have HC := Lib.hid (show Below w4.heap.size w4 w4.drew from Below.drew (Below.refl _ _))
          go_wp2_with fail
          go_region_held3 (fun w' => w'.cell? ⟨wr.heap.size, 0, none⟩ = some (.int .i64 xa) ∧ w'.cell? ⟨wr.heap.size, 1, none⟩ = some (.int .i64 xb) ∧ Below w4.heap.size w4 w')
            (first | exact ⟨x0, x1, Below.drew (Below.refl _ _)⟩ | (go_split_ands; exact ⟨kc' hbn (by assumption), kc' hbn (by assumption), bT2 (by assumption) hbn⟩) | (go_split_ands; exact ⟨by assumption, by assumption, by assumption⟩) | go_keep)
            (first
              | (go_at_call 28; refine (KL5.out _ HC.out).mono ?_; rintro e w10 ⟨ov10, rfl, hrow10, hbn⟩; have HC := Lib.hid (bT2 HC.out hbn); obtain ⟨p10, k10, rfl, hx10⟩ := row_items hrow10; have HX10 := Lib.hid hx10; clear hrow10 hx10)
              | (go_at_call 20; refine (KR2.out p11 k11 _ (by first | exact HX11.out | (intro i hi; exact HX11.out i hi))).mono ?_; rintro e w12 ⟨ov12, rfl, hrow12, hbn⟩; have HC := Lib.hid (bT2 HC.out hbn); obtain ⟨p12, k12, rfl, hx12⟩ := row_items hrow12; have HX12 := Lib.hid hx12; have HX10 := Lib.hid (fun i hi => (HX10.out i hi).imp fun g h => And.intro h.1 (And.intro (kc' hbn h.2.1) (kc' hbn h.2.2))); clear hrow12 hx12)
              | (go_at_call 20; refine (KR1.out _ HC.out).mono ?_; rintro e w11 ⟨ov11, rfl, hrow11, hbn⟩; have HC := Lib.hid (bT2 HC.out hbn); obtain ⟨p11, k11, rfl, hx11⟩ := row_items hrow11; have HX11 := Lib.hid hx11; have HX10 := Lib.hid (fun i hi => (HX10.out i hi).imp fun g h => And.intro h.1 (And.intro (kc' hbn h.2.1) (kc' hbn h.2.2))); clear hrow11 hx11)
              | (go_at_call 27; refine (KSM.out p10 p12 k10 k12 _ HX10.out HX12.out).mono ?_; rintro e w13 ⟨rfl, hbn⟩; have HC := Lib.hid (bT2 HC.out hbn))
              | (go_at_call 29; have hh := KB1.out _ HC.out; with_reducible refine hh.mono ?_; clear hh; rintro e w14 ⟨rfl, hbn⟩; have HC := Lib.hid (bT2 HC.out hbn))
              | (go_at_call 29; have hh := KB2.out _ HC.out; with_reducible refine hh.mono ?_; clear hh; rintro e w15 ⟨rfl, hbn⟩; have HC := Lib.hid (bT2 HC.out hbn)))
          all_goals
            have HS := Lib.hid (HP4.out.on HC.out)
            clear hbn x0 x1
            have hmx9 := row_items2 rfl HS.out.row
            have HLEN := Lib.hid (show xs.length ≤ i + 1 from by omega)
            have hln : xs.length ≤ 1000 := by have := HLEN.out; omega
            have KL := Lib.hid (len_T b 0 xs w15 HS.out.own.bag.bag)
            have KT := Lib.hid (list_c b 0 xs w15 HS.out.own.bag.bag (by omega))
            have HMX := Lib.hid hmx9
            clear hmx9
            go_wp2_with fail
            refine KL.out.mono ?_
            rintro e W9 ⟨rfl, rfl⟩
            go_wp2_with fail
            refine KT.out.mono ?_
            rintro e W10 ⟨ov10, rfl, hrow10, hb10⟩
            obtain ⟨p10, k10, rfl, hx10⟩ := row_items hrow10
            have KS := Lib.hid (rsameT xs p10 mp k10 mc W10 (by omega) hx10 (fun i hi => (HMX.out i hi).imp fun g h => ⟨h.1, kc' hb10 h.2.1, kc' hb10 h.2.2⟩))
            have HS10 := Lib.hid (HS.out.on hb10)
            clear hrow10 hb10 hx10 KL KT
            go_wp2_with fail
            refine KS.out.mono ?_
            rintro e W11 ⟨rfl, hb11⟩
            have HS11 := Lib.hid (HS10.out.on hb11)
            clear hb11 KS
            go_wp2
            exact ⟨⟨i + 1, xs, sv, by go_num, by omega, HLEN.out, HS11⟩, by simp [intOf]; omega⟩
      · obtain rfl : i = ys.length := by omega
        have HB := Lib.hid HP.out.below
        go_wp2
        go_ret
        exact ⟨rfl, HB.out⟩
  · have hd : decide ((ys.length : Int) > 200) = true := decide_eq_true (by omega)
    go_wp2_with fail
    refine (KA.out _).mono ?_
    rintro e w2 ⟨rfl, hb2⟩
    have HB2 := Lib.hid (bT' HB1.out hb2 HB1.out.size)
    clear hb2
    go_wp2
    go_ret
    exact ⟨rfl, HB2.out⟩
end Go.Proofs.Ytfjipkkhjjpaiaa
