/-
  The law HeapAll over this seat's translation: what is gone through is all that there is, the least first, and as long as something is so just that, however soon one stops. Conditions: those that each theorem states.
-/
import Derived.Test.YtngeinmpnjfhfaaHpAllB
import Derived.Deep.QuietTactic
namespace Go.Proofs.Ytngeinmpnjfhfaa
open Go.RowKit Go.Shelf Go.Lib Go.Sort Hp Go.Maps
attribute [local go_sem] Oper.semAt_some

theorem entH_at {W : World} {B : Nat} {v : Value} {l : List It} (h : W.ownsRow B 33 2 v l.length (l.flatMap It.cells)) : ∃ p cap, v = .slice p l.length cap ∧ l.length ≤ cap ∧ At2 W p l := by
  rcases id h.2 with ⟨rfl, e⟩ | ⟨g, cap, cur, rfl, hg⟩
  · exact ⟨none, 0, by rw [e], by omega, fun i hi => by omega⟩
  · refine ⟨_, cap, rfl, ?_, fun i hi => ⟨g, 0, rfl, ?_, ?_⟩⟩
    · obtain ⟨_, _, h1, _⟩ := hg
      omega
    · rw [Nat.zero_add, h.cellAt (i * 2) (by omega)]
      have := flat_get cT_len l i 0 hi (by omega)
      rw [Nat.add_zero] at this
      rw [this]; rfl
    · rw [Nat.zero_add, h.cellAt (i * 2 + 1) (by omega), flat_get cT_len l i 1 hi (by omega)]
      rfl

set_option maxHeartbeats 64000000 in
set_option maxRecDepth 1000000 in
theorem all_c (q : Option Addr) (cap : Nat) (ys : List Ac) (stop : Nat) (w : World) (hy : InList cA w q ys) (hyb : ∀ y ∈ ys, 0 ≤ y.1 ∧ y.1 ≤ 255 ∧ W64 y.2.1 ∧ W64 y.2.2) (hstop255 : stop ≤ 255) :
    Calls Try.prog 5 #[.slice q ys.length cap, .int .u8 (stop : Int)] w fun e w' => e = .returned (.bool true) ∧ Below w.heap.size w w' := by
  have mixed : Try.prog.follows .mixedOrders = true := by kernel_rfl
  have eg1 : ∀ args w, (callFunc 22 args).run Try.prog w = .ok (.enter 22 args) w := enters_of Try.func22 (by kernel_rfl) rfl
  have eg2 : ∀ args w, (callFunc 12 args).run Try.prog w = .ok (.enter 12 args) w := enters_of Try.func12 (by kernel_rfl) rfl
  have KPL := Lib.hid fun (x : It) (w : World) => plain_g x w
  have KA := Lib.hid fun (W : World) => awake_c W
  have HY := Lib.hid (And.intro hy hyb)
  clear hy hyb
  refine (callsIn_wide (n := 0)).1 ?_
  refine callsIn_of_wp_marks Try.func5 rfl trivial ?_ rfl
  simp only [Try.ntmps5, List.size_toArray, List.length_cons, List.length_nil, Nat.reduceAdd, Nat.reduceSub, Array.replicate_succ, Array.replicate_zero, List.push_toArray, List.append_toArray, List.nil_append, List.cons_append]
  refine wpIn_wide.2 ?_
  have hs0 := Box.new w (.int .u8 (stop : Int)) 5
  have hbs := bA' (Below.refl w.heap.size w) (Nat.le_refl _) (.cells #[.int .u8 (stop : Int)] 5)
  have he0 := Box.new (w.alloc (.cells #[.int .u8 (stop : Int)] 5)) (.bool false) 4
  have hbe := bA' (Below.refl (w.alloc (.cells #[.int .u8 (stop : Int)] 5)).heap.size (w.alloc (.cells #[.int .u8 (stop : Int)] 5))) (Nat.le_refl _) (.cells #[.bool false] 4)
  have hs0 := hs0.below hbe
  have hb0 := bT2 hbs hbe
  rw [World.size_alloc] at he0
  have H0 := Lib.hid (And.intro hs0 (And.intro he0 hb0))
  clear hs0 hbs he0 hbe hb0
  go_wp2_with fail
  refine (KA.out _).mono ?_
  rintro e w1 ⟨rfl, hb1⟩
  obtain ⟨hs0, he0, hb0⟩ := H0.out
  have H1 := Lib.hid (And.intro (hs0.below hb1) (And.intro (he0.below hb1) (bT2 hb0 hb1)))
  clear hs0 he0 hb0 hb1 H0
  by_cases hlen : ys.length ≤ 200
  · have hd : decide ((ys.length : Int) > 200) = false := decide_eq_false (by omega)
    have KN := Lib.hid (new_o w1)
    go_wp2_with fail
    refine KN.out.mono ?_
    rintro e w2 ⟨hb2, hb, mb, sv0, rfl, hown⟩
    have hbm := bA' (Below.refl w2.heap.size w2) (Nat.le_refl _) (.cells #[.slice none 0 0] 41)
    have hz1 := H1.out.2.2.size
    have H2 := Lib.hid (show Own w.heap.size (w2.alloc (.cells #[.slice none 0 0] 41)) hb sv0 mb [] ∧ RestI w stop w2.heap.size 0 0 none [] (w2.alloc (.cells #[.slice none 0 0] 41)) ∧ ([] : List It).Perm [] ∧ ([] : List It).length ≤ 0 from
      ⟨Own.below ⟨hown.heap, Nat.le_trans hz1 hown.b1, Nat.le_trans hz1 hown.b2, fun g e => Nat.le_trans hz1 (hown.b3 g e)⟩ hbm,
        ⟨bT' (bT' H1.out.2.2 hb2 hz1) hbm (Nat.le_trans hz1 hb2.size), (H1.out.1.below hb2).below hbm, (H1.out.2.1.below hb2).below hbm, Box.new w2 _ _, Nat.le_trans hz1 hb2.size, rfl, ⟨Nat.le_refl _, fun i hi => absurd hi (Nat.not_lt_zero _)⟩, .nil⟩, .refl _, Nat.le_refl _⟩)
    clear hb2 hown KN H1 hbm hz1
    go_wp2
    obtain ⟨Mb, hMb⟩ : ∃ Mb, w2.heap.size = Mb := ⟨_, rfl⟩
    rw [hMb] at H2
    simp only [hMb]
    go_loopw [7] (fun iv wr => ∃ (i n mc : Nat) (p : Option Addr) (sv : Value) (es m : List It), iv = .int .i64 i ∧ i ≤ ys.length ∧ Hid (Own w.heap.size wr hb sv mb es ∧ RestI w stop Mb n mc p m wr ∧ es.Perm m ∧ m.length ≤ i)) (fun v _ => ys.length - (intOf v).toNat)
    case atStart => exact ⟨0, 0, 0, none, sv0, [], [], rfl, Nat.zero_le _, H2⟩
    case round =>
      clear H2 hMb
      obtain ⟨i, n, mc, p, sv, es, m, rfl, hi, HP⟩ := hrel
      by_cases hlt : i < ys.length
      · have hiz : (i : Int) < (ys.length : Int) := by omega
        obtain ⟨ho0, hr0, hp0, hle⟩ := HP.out
        obtain ⟨gl, off, rfl, hcells⟩ := (HY.out.1.below hr0.below).acts (by omega)
        obtain ⟨c0, c1, c2⟩ := hcells i hlt
        have hdb := HY.out.2 ys[i] (List.getElem_mem hlt)
        obtain ⟨⟨d, xa, xb⟩, hd0⟩ : ∃ y : Ac, ys[i] = y := ⟨_, rfl⟩
        rw [hd0] at c0 c1 c2 hdb
        dsimp only at c0 c1 c2
        have hbX : Below wr.heap.size wr (wr.alloc (.cells #[.int .u8 d, .int .i64 xa, .int .i64 xb] 29)) := bA' (Below.refl _ _) (Nat.le_refl _) _
        have hX := World.alloc_heap_new wr (.cells #[.int .u8 d, .int .i64 xa, .int .i64 xb] 29)
        have KD := done_o (d, xa, xb) (ho0.below hbX) (hr0.on hbX).below.size hdb (by rw [hp0.length_eq]; omega)
        dsimp only at KD hdb
        have HX := Lib.hid (And.intro (ho0.below hbX) (And.intro (hr0.on hbX) (And.intro hX (And.intro hp0 hle))))
        have hr0 : Int.tmod d 8 = d % 8 := Int.tmod_eq_emod_of_nonneg hdb.1
        have hr : ∃ r : Int, Int.tmod d 8 = r ∧ (r = 0 ∨ r = 1 ∨ r = 2 ∨ r = 3 ∨ r = 4 ∨ r = 5 ∨ r = 6 ∨ r = 7) := ⟨_, rfl, by rw [hr0]; omega⟩
        obtain ⟨r, hr1, hr2⟩ := hr
        have HD := Lib.hid (hr0.symm.trans hr1)
        have hw8 : IntKind.u8.wrap r = r := by rcases hr2 with rfl | rfl | rfl | rfl | rfl | rfl | rfl | rfl <;> decide
        have hri : IntKind.i64.wrap ((i : Int) + 1) = ((i + 1 : Nat) : Int) := by rw [IntKind.wrap_i64]; omega
        have HI := Lib.hid hi
        clear hd0 hcells hbX hX hr0 hdb ho0 hp0 hle
        go_wp2_with fail
        refine KD.mono ?_
        rintro e w3 ⟨rfl, sv3, es3, ho, hst, _, hl⟩
        have hx3 : w3.heap[wr.heap.size]? = some (.cells #[.int .u8 d, .int .i64 xa, .int .i64 xb] 29 (0, 0)) := by
          obtain ⟨k1, k2, k3⟩ := HX.out.1.other HX.out.2.2.1 (by decide) (by decide)
          exact (hl.touch.block _ (Array.getElem?_eq_some_iff.1 HX.out.2.2.1).1 k1 k2 k3).trans HX.out.2.2.1
        obtain ⟨x0, x1, x2, _⟩ := cell_three hx3
        have hr3 := HX.out.2.1.left HX.out.1 hl
        have hp3 := hst.perm HX.out.2.2.2.1 HX.out.1.heap.ord hr3.rising
        have cM := hr3.bm.cell
        have fM := hr3.bm.frozen
        have hle3 := HX.out.2.2.2.2
        clear hl hst hx3 c0 c1 c2 KD HX
        rcases hr2 with rfl | rfl | rfl | rfl | rfl | rfl | rfl | rfl
        · have hN : mNext (d, xa, xb) m = putE (sans m xa) (xa, xb) := by unfold mNext; rw [if_pos (by show d % 8 < 4; have := HD.out; omega)]
          rw [hN] at hp3
          have KR := rset_c m (xa, xb) p mc w3 (by omega) hr3.lie.at
          rw [← hr3.cnt] at KR
          have H3 := Lib.hid (And.intro ho (And.intro hr3 (And.intro hp3 hle3)))
          clear ho hr3 hp3 hN hle3
          go_wp2_with fail
          refine KR.mono ?_
          rintro e w4 ⟨ov, rfl, hrow4, hb4⟩
          obtain ⟨p4, c4, rfl, hlie4⟩ := Ents.lie (hrow4.up (B' := w.heap.size) H3.out.2.1.below.size)
          obtain ⟨n4, hn4⟩ : ∃ n4, (putE (sans m xa) (xa, xb)).length = n4 := ⟨_, rfl⟩
          rw [hn4]
          have hr4 := H3.out.2.1.on hb4
          have HS := Lib.hid (And.intro ((H3.out.1.below hb4).put hr4.bm (by decide) (by decide) (.slice p4 n4 c4)) (And.intro (hr4.put hlie4 (putE_rising _ _ (sans_rising hr4.rising _) (fun y hy => mem_sans' hy)) hn4.symm) (And.intro H3.out.2.2.1 (show (putE (sans m xa) (xa, xb)).length ≤ i + 1 by rw [putE_len]; have := sans_le m xa; have := H3.out.2.2.2; omega))))
          have cM4 := hr4.bm.cell
          have fM4 := hr4.bm.frozen
          clear hrow4 hb4 hlie4 hn4 KR x0 x1 x2 cM fM hr4
          go_wp2
          exact ⟨⟨i + 1, n4, c4, p4, sv3, es3, _, rfl, by omega, HS⟩, by simp [intOf]; omega⟩
        · have hN : mNext (d, xa, xb) m = putE (sans m xa) (xa, xb) := by unfold mNext; rw [if_pos (by show d % 8 < 4; have := HD.out; omega)]
          rw [hN] at hp3
          have KR := rset_c m (xa, xb) p mc w3 (by omega) hr3.lie.at
          rw [← hr3.cnt] at KR
          have H3 := Lib.hid (And.intro ho (And.intro hr3 (And.intro hp3 hle3)))
          clear ho hr3 hp3 hN hle3
          go_wp2_with fail
          refine KR.mono ?_
          rintro e w4 ⟨ov, rfl, hrow4, hb4⟩
          obtain ⟨p4, c4, rfl, hlie4⟩ := Ents.lie (hrow4.up (B' := w.heap.size) H3.out.2.1.below.size)
          obtain ⟨n4, hn4⟩ : ∃ n4, (putE (sans m xa) (xa, xb)).length = n4 := ⟨_, rfl⟩
          rw [hn4]
          have hr4 := H3.out.2.1.on hb4
          have HS := Lib.hid (And.intro ((H3.out.1.below hb4).put hr4.bm (by decide) (by decide) (.slice p4 n4 c4)) (And.intro (hr4.put hlie4 (putE_rising _ _ (sans_rising hr4.rising _) (fun y hy => mem_sans' hy)) hn4.symm) (And.intro H3.out.2.2.1 (show (putE (sans m xa) (xa, xb)).length ≤ i + 1 by rw [putE_len]; have := sans_le m xa; have := H3.out.2.2.2; omega))))
          have cM4 := hr4.bm.cell
          have fM4 := hr4.bm.frozen
          clear hrow4 hb4 hlie4 hn4 KR x0 x1 x2 cM fM hr4
          go_wp2
          exact ⟨⟨i + 1, n4, c4, p4, sv3, es3, _, rfl, by omega, HS⟩, by simp [intOf]; omega⟩
        · have hN : mNext (d, xa, xb) m = putE (sans m xa) (xa, xb) := by unfold mNext; rw [if_pos (by show d % 8 < 4; have := HD.out; omega)]
          rw [hN] at hp3
          have KR := rset_c m (xa, xb) p mc w3 (by omega) hr3.lie.at
          rw [← hr3.cnt] at KR
          have H3 := Lib.hid (And.intro ho (And.intro hr3 (And.intro hp3 hle3)))
          clear ho hr3 hp3 hN hle3
          go_wp2_with fail
          refine KR.mono ?_
          rintro e w4 ⟨ov, rfl, hrow4, hb4⟩
          obtain ⟨p4, c4, rfl, hlie4⟩ := Ents.lie (hrow4.up (B' := w.heap.size) H3.out.2.1.below.size)
          obtain ⟨n4, hn4⟩ : ∃ n4, (putE (sans m xa) (xa, xb)).length = n4 := ⟨_, rfl⟩
          rw [hn4]
          have hr4 := H3.out.2.1.on hb4
          have HS := Lib.hid (And.intro ((H3.out.1.below hb4).put hr4.bm (by decide) (by decide) (.slice p4 n4 c4)) (And.intro (hr4.put hlie4 (putE_rising _ _ (sans_rising hr4.rising _) (fun y hy => mem_sans' hy)) hn4.symm) (And.intro H3.out.2.2.1 (show (putE (sans m xa) (xa, xb)).length ≤ i + 1 by rw [putE_len]; have := sans_le m xa; have := H3.out.2.2.2; omega))))
          have cM4 := hr4.bm.cell
          have fM4 := hr4.bm.frozen
          clear hrow4 hb4 hlie4 hn4 KR x0 x1 x2 cM fM hr4
          go_wp2
          exact ⟨⟨i + 1, n4, c4, p4, sv3, es3, _, rfl, by omega, HS⟩, by simp [intOf]; omega⟩
        · have hN : mNext (d, xa, xb) m = putE (sans m xa) (xa, xb) := by unfold mNext; rw [if_pos (by show d % 8 < 4; have := HD.out; omega)]
          rw [hN] at hp3
          have KR := rset_c m (xa, xb) p mc w3 (by omega) hr3.lie.at
          rw [← hr3.cnt] at KR
          have H3 := Lib.hid (And.intro ho (And.intro hr3 (And.intro hp3 hle3)))
          clear ho hr3 hp3 hN hle3
          go_wp2_with fail
          refine KR.mono ?_
          rintro e w4 ⟨ov, rfl, hrow4, hb4⟩
          obtain ⟨p4, c4, rfl, hlie4⟩ := Ents.lie (hrow4.up (B' := w.heap.size) H3.out.2.1.below.size)
          obtain ⟨n4, hn4⟩ : ∃ n4, (putE (sans m xa) (xa, xb)).length = n4 := ⟨_, rfl⟩
          rw [hn4]
          have hr4 := H3.out.2.1.on hb4
          have HS := Lib.hid (And.intro ((H3.out.1.below hb4).put hr4.bm (by decide) (by decide) (.slice p4 n4 c4)) (And.intro (hr4.put hlie4 (putE_rising _ _ (sans_rising hr4.rising _) (fun y hy => mem_sans' hy)) hn4.symm) (And.intro H3.out.2.2.1 (show (putE (sans m xa) (xa, xb)).length ≤ i + 1 by rw [putE_len]; have := sans_le m xa; have := H3.out.2.2.2; omega))))
          have cM4 := hr4.bm.cell
          have fM4 := hr4.bm.frozen
          clear hrow4 hb4 hlie4 hn4 KR x0 x1 x2 cM fM hr4
          go_wp2
          exact ⟨⟨i + 1, n4, c4, p4, sv3, es3, _, rfl, by omega, HS⟩, by simp [intOf]; omega⟩
        · have hN : mNext (d, xa, xb) m = sans m xa := by unfold mNext; rw [if_neg (by show ¬ d % 8 < 4; have := HD.out; omega), if_pos (by show d % 8 = 4; have := HD.out; omega)]
          rw [hN] at hp3
          have KR := rdel_c m xa p mc w3 (by omega) hr3.lie.at
          rw [← hr3.cnt] at KR
          generalize (m.any fun y => y.1 == xa) = bb at KR
          have H3 := Lib.hid (And.intro ho (And.intro hr3 (And.intro hp3 hle3)))
          clear ho hr3 hp3 hN hle3
          go_wp2_with fail
          refine KR.mono ?_
          rintro e w4 ⟨ov, rfl, hrow4, hb4⟩
          obtain ⟨p4, c4, rfl, hlie4⟩ := Ents.lie (hrow4.up (B' := w.heap.size) H3.out.2.1.below.size)
          obtain ⟨n4, hn4⟩ : ∃ n4, (sans m xa).length = n4 := ⟨_, rfl⟩
          rw [hn4]
          have hr4 := H3.out.2.1.on hb4
          have HS := Lib.hid (And.intro ((H3.out.1.below hb4).put hr4.bm (by decide) (by decide) (.slice p4 n4 c4)) (And.intro (hr4.put hlie4 (sans_rising hr4.rising _) hn4.symm) (And.intro H3.out.2.2.1 (show (sans m xa).length ≤ i + 1 by have := sans_le m xa; have := H3.out.2.2.2; omega))))
          have cM4 := hr4.bm.cell
          have fM4 := hr4.bm.frozen
          clear hrow4 hb4 hlie4 hn4 KR x0 x1 x2 cM fM hr4
          go_wp2
          exact ⟨⟨i + 1, n4, c4, p4, sv3, es3, _, rfl, by omega, HS⟩, by simp [intOf]; omega⟩
        · have hN : mNext (d, xa, xb) m = m := by unfold mNext; rw [if_neg (by show ¬ d % 8 < 4; have := HD.out; omega), if_neg (by show ¬ d % 8 = 4; have := HD.out; omega), if_neg (by show ¬ d % 8 = 6; have := HD.out; omega)]
          rw [hN] at hp3
          have H3 := Lib.hid (And.intro ho (And.intro hr3 (And.intro hp3 (show m.length ≤ i + 1 by omega))))
          clear ho hr3 hp3 hN hle3
          go_wp2
          exact ⟨⟨i + 1, n, mc, p, sv3, es3, _, rfl, by omega, H3⟩, by simp [intOf]; omega⟩
        · have hN : mNext (d, xa, xb) m = m.tail := by unfold mNext; rw [if_neg (by show ¬ d % 8 < 4; have := HD.out; omega), if_neg (by show ¬ d % 8 = 4; have := HD.out; omega), if_pos (by show d % 8 = 6; have := HD.out; omega)]
          rw [hN] at hp3
          clear hN
          rcases m with _ | ⟨x, m'⟩
          · obtain rfl : n = 0 := hr3.cnt
            have H3 := Lib.hid (And.intro ho (And.intro hr3 (And.intro hp3 (show ([] : List It).length ≤ i + 1 from Nat.zero_le _))))
            clear ho hr3 hp3 hle3
            go_wp2
            exact ⟨⟨i + 1, 0, mc, p, sv3, es3, [], rfl, by omega, H3⟩, by simp [intOf]; omega⟩
          · have hn1 : n = m'.length + 1 := hr3.cnt
            rw [List.length_cons] at hle3
            have hnp : (n : Int) > 0 := by omega
            have hnp2 : 0 < n := by omega
            have hd5 : decide ((n : Int) > 0) = true := decide_eq_true hnp
            have hd6 : decide (0 < n) = true := decide_eq_true hnp2
            have hz0 : (0 : Int) < (n : Int) := by omega
            obtain ⟨g, off2, cur, fr, hpe, _, _, _, _⟩ := hr3.lie.2 0 (by simp)
            have hmc : n ≤ mc := by have := hr3.lie.1; rw [List.length_cons, ← hn1] at this; exact this
            have HT := Lib.hid (hr3.lie.tail g off2 hpe)
            have h1n : (1 : Int) ≤ (n : Int) := by omega
            have h1m : (1 : Int) ≤ (mc : Int) := by omega
            have h1n2 : 1 ≤ n := by omega
            have h1m2 : 1 ≤ mc := by omega
            have H3 := Lib.hid (And.intro ho (And.intro hr3 (And.intro hp3 (And.intro hn1 hle3))))
            clear ho hr3 hp3 hle3 hn1
            subst hpe
            by_cases hm1 : mc = 1
            · have HS := Lib.hid (And.intro (H3.out.1.put H3.out.2.1.bm (by decide) (by decide) (.slice (some ⟨g, off2, none⟩) (n - 1 : Nat) (0 : Nat))) (And.intro (H3.out.2.1.put (n' := n - 1) (by have h := HT.out; rw [if_pos hm1, hm1] at h; exact h) (List.pairwise_cons.1 H3.out.2.1.rising).2 (by have := H3.out.2.2.2.1; omega)) (And.intro H3.out.2.2.1 (show m'.length ≤ i + 1 by have := H3.out.2.2.2.2; omega))))
              go_wp2
              exact ⟨⟨i + 1, n - 1, 0, _, sv3, es3, _, rfl, by omega, HS⟩, by simp [intOf]; omega⟩
            · have hm2 : decide (mc = 1) = false := decide_eq_false hm1
              have HS := Lib.hid (And.intro (H3.out.1.put H3.out.2.1.bm (by decide) (by decide) (.slice (some ⟨g, off2 + 2, none⟩) (n - 1 : Nat) (mc - 1 : Nat))) (And.intro (H3.out.2.1.put (n' := n - 1) (by have h := HT.out; rw [if_neg hm1] at h; exact h) (List.pairwise_cons.1 H3.out.2.1.rising).2 (by have := H3.out.2.2.2.1; omega)) (And.intro H3.out.2.2.1 (show m'.length ≤ i + 1 by have := H3.out.2.2.2.2; omega))))
              go_wp2
              exact ⟨⟨i + 1, n - 1, mc - 1, _, sv3, es3, _, rfl, by omega, HS⟩, by simp [intOf]; omega⟩
        · have hN : mNext (d, xa, xb) m = m := by unfold mNext; rw [if_neg (by show ¬ d % 8 < 4; have := HD.out; omega), if_neg (by show ¬ d % 8 = 4; have := HD.out; omega), if_neg (by show ¬ d % 8 = 6; have := HD.out; omega)]
          rw [hN] at hp3
          have H3 := Lib.hid (And.intro ho (And.intro hr3 (And.intro hp3 (show m.length ≤ i + 1 by omega))))
          clear ho hr3 hp3 hN hle3
          go_wp2
          exact ⟨⟨i + 1, n, mc, p, sv3, es3, _, rfl, by omega, H3⟩, by simp [intOf]; omega⟩
      · obtain rfl : i = ys.length := by omega
        obtain ⟨ho0, hr0, hp0, hle⟩ := HP.out
        have hle2 : m.length ≤ 200 := by omega
        have hn : n = m.length := hr0.cnt
        go_wp2_with fail
        refine (allf_c _ _).mono ?_
        rintro e w5 ⟨rfl, hw5⟩
        have hb5 : Below wr.heap.size wr w5 := hw5 ▸ bA' (Below.refl _ _) (Nat.le_refl _) _
        have hbx : w5.heap[wr.heap.size]? = some (.cells #[.pointer (some ⟨hb, 0, none⟩)] 24 (0, 0)) := hw5 ▸ World.alloc_heap_new wr _
        have KC := collect_c wr.heap.size hb mb sv es m w5 hr0.rising hp0 (by omega) hbx (ho0.heap.below hb5)
        have H5 := Lib.hid (And.intro (ho0.below hb5) (And.intro (hr0.on hb5) (And.intro hp0 (And.intro hle2 hn))))
        clear ho0 hr0 hp0 hle hle2 hn hb5 hbx hw5 HP
        go_wp2_with fail
        refine KC.mono ?_
        rintro e w6 ⟨av, rfl, hrow, hb6⟩
        obtain ⟨pa, ca, rfl, hca, hat⟩ := entH_at hrow
        have H6 := Lib.hid (And.intro (H5.out.1.below hb6) (And.intro (H5.out.2.1.on hb6) (And.intro hat H5.out.2.2)))
        rw [show m.length = n from H5.out.2.2.2.2.symm] at hca ⊢
        have HCA := Lib.hid hca
        clear hrow hb6 hat H5 KC hca
        have hnn : ((n : Int) != (n : Int)) = false := by simp
        have cM := H6.out.2.1.bm.cell
        have gM := cg cM
        have KL1 := Lib.hid fun (nq : Nat) (osq : Array Obj) => by
          have := (len_c hb mb sv es (grow (w6.drewN nq) osq) (H6.out.1.heap.below (below_grown_sl _ _ _ _ (Nat.le_refl _)))).mono fun e w' h => (show e = .returned (.int .i64 (n : Nat)) ∧ ∃ q os', w' = grow ((grow (w6.drewN nq) osq).drewN q) os' from ⟨by rw [h.1, H6.out.2.2.2.1.length_eq, ← H6.out.2.2.2.2.2], by rw [← h.2]; exact G.refl _⟩)
          exact this
        go_wp2_with fail
        go_quiet_grown (first | (go_at_fn 12; exact Calls.grown_of (KL1.out _ _)))
        have hb7 : Below w6.heap.size w6 (grow (w6.drewN nq) osq) := below_grown_sl _ _ _ _ (Nat.le_refl _)
        have H7 := Lib.hid (And.intro (H6.out.1.below hb7) (And.intro (H6.out.2.1.on hb7) (And.intro (H6.out.2.2.1.below hb7) H6.out.2.2.2)))
        clear cM gM KL1 hb7 H6 hnn
        generalize grow (w6.drewN nq) osq = w7 at *
        have H8 := Lib.hid (And.intro (bA' (Below.refl w7.heap.size w7) (Nat.le_refl _) (.cells #[.int .i64 0] 3)) (Box.new w7 (.int .i64 0) 3))
        go_wp2
        obtain ⟨Wb, hWb⟩ : ∃ Wb, w7.heap.size = Wb := ⟨_, rfl⟩
        rw [hWb] at H8
        simp only [hWb]
        have HW := Lib.hid hWb
        clear hWb
        generalize w7.alloc (.cells #[.int .i64 0] 3) = w8 at *
        go_loopw [11] (fun iv wr => ∃ j : Nat, iv = .int .i64 j ∧ j ≤ n ∧ Hid (Below Wb w7 wr ∧ Box wr Wb (.int .i64 (wt m j : Nat)) 3)) (fun v _ => n - (intOf v).toNat)
        case atStart => exact ⟨0, rfl, Nat.zero_le _, H8⟩
        case round =>
          clear H8
          obtain ⟨j, rfl, hj, HQ⟩ := hrel
          obtain ⟨hbw, hbxW⟩ := HQ.out
          have hbw7 : Below w7.heap.size w7 wr := by rw [HW.out]; exact hbw
          by_cases hlt : j < n
          · have hjz : (j : Int) < (n : Int) := by omega
            have hr8 := H7.out.2.1.on hbw7
            obtain ⟨ga, oa, rfl, a0, a1⟩ := (H7.out.2.2.1.below hbw7) j (by have := H7.out.2.2.2.2.2; omega)
            obtain ⟨gm, om, cur, fr, rfl, _, _, m0, m1⟩ := hr8.lie.2 j (by have := H7.out.2.2.2.2.2; omega)
            obtain ⟨x, hx⟩ : ∃ x, m[j]'(by have := H7.out.2.2.2.2.2; omega) = x := ⟨_, rfl⟩
            rw [hx] at a0 a1 m0 m1
            have hgx : Hp.g m j = x := (g_get (by have := H7.out.2.2.2.2.2; omega)).trans hx
            have hnx := wt_next (m := m) (i := j) (by have := H7.out.2.2.2.2.2; omega)
            rw [hgx] at hnx
            have cM := hr8.bm.cell
            have gM := cg cM
            have g0 := cg a0
            have g1 := cg a1
            have g2 := cg m0
            have g3 := cg m1
            have hcj := wt_le m j
            obtain ⟨c, hc⟩ : ∃ c, wt m j = c := ⟨_, rfl⟩
            rw [hc] at hnx hcj hbxW
            have HNX := Lib.hid (And.intro hnx hcj)
            have HBW := Lib.hid (And.intro hbw (And.intro hbxW hr8))
            have HMM := Lib.hid m1
            have hn200 : n ≤ 200 := by have := H7.out.2.2.2.2; omega
            clear hx hgx hnx hcj hbw hbxW hr8 hbw7 hc HQ a0 a1 m0 m1
            go_wp2_with fail
            go_quiet_grown (first | (go_at_fn 22; exact Calls.grown_of (KPL.out x _)))
            have hbz : Below wr.heap.size wr (grow (wr.drewN nq) osq) := below_grown_sl _ _ _ _ (Nat.le_refl _)
            have hbz2 : Below Wb w7 (grow (wr.drewN nq) osq) := bT' HBW.out.1 hbz (by have := HBW.out.2.1.lt; omega)
            have hboxz := HBW.out.2.1.below hbz
            have m1 := kc' hbz HMM.out
            have cM2 := (HBW.out.2.2.on hbz).bm.cell
            have cW := hboxz.cell
            have fW := hboxz.frozen
            have HZ := Lib.hid (And.intro hbz2 hboxz)
            clear gM cM g0 g1 g2 g3 hbz hbz2 hboxz HBW HMM
            generalize grow (wr.drewN nq) osq = wz at *
            have hcn : IntKind.i64.wrap ((c : Int) + 1) = ((c + 1 : Nat) : Int) := by rw [IntKind.wrap_i64] <;> (have := HNX.out.2; omega)
            have hjn : IntKind.i64.wrap ((j : Int) + 1) = ((j + 1 : Nat) : Int) := by rw [IntKind.wrap_i64] <;> omega
            go_wp2_with fail
            refine (low_c x.2 _).mono ?_
            rintro e w' ⟨rfl, rfl⟩
            by_cases hl : x.2 ≤ 4
            · rw [decide_eq_true hl]
              by_cases hcj : c = j
              · have hzz : ((c : Int) == (j : Int)) = true := by rw [hcj]; simp
                have HS := Lib.hid (show Below Wb w7 (wz.setCell ⟨Wb, 0, none⟩ (.int .i64 ((c + 1 : Nat) : Int))) ∧ Box (wz.setCell ⟨Wb, 0, none⟩ (.int .i64 ((c + 1 : Nat) : Int))) Wb (.int .i64 (wt m (j + 1) : Nat)) 3 from ⟨below_set HZ.out.1 (Nat.le_refl _) _, by rw [HNX.out.1, if_pos ⟨by show decide (x.2 ≤ 4) = true; exact decide_eq_true hl, hcj⟩]; exact HZ.out.2.set _⟩)
                clear hl hcj
                go_wp2
                exact ⟨⟨j + 1, rfl, by omega, HS⟩, by simp [intOf]; omega⟩
              · have hzz : ((c : Int) == (j : Int)) = false := by simp; omega
                have HS := Lib.hid (show Below Wb w7 wz ∧ Box wz Wb (.int .i64 (wt m (j + 1) : Nat)) 3 from ⟨HZ.out.1, by rw [HNX.out.1, if_neg (fun h => hcj h.2)]; exact HZ.out.2⟩)
                clear hl hcj
                go_wp2
                exact ⟨⟨j + 1, rfl, by omega, HS⟩, by simp [intOf]; omega⟩
            · rw [decide_eq_false hl]
              have HS := Lib.hid (show Below Wb w7 wz ∧ Box wz Wb (.int .i64 (wt m (j + 1) : Nat)) 3 from ⟨HZ.out.1, by rw [HNX.out.1, if_neg (fun h => hl (by have := h.1; unfold lowB at this; simpa using this))]; exact HZ.out.2⟩)
              clear hl
              go_wp2
              exact ⟨⟨j + 1, rfl, by omega, HS⟩, by simp [intOf]; omega⟩
          · obtain rfl : j = n := by omega
            obtain ⟨N, hN⟩ : ∃ N, (m.takeWhile lowB).length = N := ⟨_, rfl⟩
            have hwN : wt m j = N := by rw [H7.out.2.2.2.2.2, wt_all, hN]
            have hNn : N ≤ j := by have := tw_le m; have := H7.out.2.2.2.2.2; omega
            rw [hwN] at hbxW
            have hj200 : j ≤ 200 := by have := H7.out.2.2.2.2; omega
            have ho9 := H7.out.1.below hbw7
            have hr9 := H7.out.2.1.on hbw7
            have hbWM := hbxW.ne hr9.bm (by decide)
            have cM9 := hr9.bm.cell
            have cW9 := hbxW.cell
            have H9 := Lib.hid (And.intro ho9 (And.intro hr9 hbxW))
            have HP9 := Lib.hid H7.out.2.2.2
            clear hbw hbw7 HQ hwN ho9 hr9 hbxW hbWM H7 HW cW9
            go_wp2_with fail
            clear cM9
            refine (whilef_c _ _).mono ?_
            rintro e w5 ⟨rfl, hw5⟩
            obtain ⟨ho9, hr9, hbxW⟩ := H9.out
            have hn := Box.new wr (.int .i64 0) 3
            have hbn := bA' (Below.refl wr.heap.size wr) (Nat.le_refl _) (.cells #[.int .i64 0] 3)
            have hs4 : (wr.alloc (.cells #[.int .i64 0] 3)).heap.size = wr.heap.size + 1 := World.size_alloc _ _
            generalize wr.alloc (.cells #[.int .i64 0] 3) = w4 at *
            have hbv := Box.new w4 (.pointer (some ⟨hb, 0, none⟩)) 24
            have hb4v := bA' (Below.refl w4.heap.size w4) (Nat.le_refl _) (.cells #[.pointer (some ⟨hb, 0, none⟩)] 24)
            have hsv : (w4.alloc (.cells #[.pointer (some ⟨hb, 0, none⟩)] 24)).heap.size = wr.heap.size + 1 + 1 := by rw [World.size_alloc, hs4]
            generalize w4.alloc (.cells #[.pointer (some ⟨hb, 0, none⟩)] 24) = wv at *
            have hbs := Box.new wv (.func (.func 26) #[] #[]) 47
            have hbvs := bA' (Below.refl wv.heap.size wv) (Nat.le_refl _) (.cells #[.func (.func 26) #[] #[]] 47)
            have hs5 : (wv.alloc (.cells #[.func (.func 26) #[] #[]] 47)).heap.size = wr.heap.size + 1 + 1 + 1 := by rw [World.size_alloc, hsv]
            rw [← hw5] at hbs hbvs hs5
            rw [hs4]
            rw [hs4] at hbv
            rw [hsv] at hbs
            have hb25 : Below wr.heap.size wr w5 := bT2 (bT2 hbn hb4v) hbvs
            have hseq := while_seqP (wr.heap.size + 1 + 1) (wr.heap.size + 1) hb mb sv es m w5 hr9.rising HP9.out.1 (by have := HP9.out.2.1; omega) hbs (hbv.below hbvs) (ho9.heap.below hb25)
            rw [hN] at hseq
            obtain ⟨pl, hpl⟩ : ∃ pl : Nat → Int, ∀ k, (Hp.g m k).1 = pl k := ⟨fun k => (Hp.g m k).1, fun _ => rfl⟩
            rw [show (fun k : Nat => (#[.int .i64 (Hp.g m k).1] : Array Value)) = fun k => #[.int .i64 (pl k)] from funext fun k => by rw [hpl]] at hseq
            have hn5 := (hn.below hb4v).below hbvs
            have hlt9 := ho9.heap.lt.1
            have hnn : Own w.heap.size w5 hb sv mb es := ho9.below hb25
            have H5 := Lib.hid (And.intro (hr9.on hb25) (And.intro (hbxW.below hb25) (And.intro hn5 (And.intro hs5 (And.intro hlt9 (And.intro hr9.bs.lt (And.intro hr9.be.lt (And.intro hr9.bm.lt (And.intro hbxW.lt (And.intro hr9.below.size HP9.out))))))))))
            have HPL := Lib.hid hpl
            have EG : ∀ args w, (callFunc 39 args).run Try.prog w = .ok (.enter 39 args) w := enters_of Try.func39 (by kernel_rfl) rfl
            clear ho9 hr9 hbxW hn hbn hbv hb4v hbs hbvs hb25 hN hpl hw5 hs4 hsv hs5 hn5 hlt9 hnn H9 HP9
            go_wp2_with fail
            refine (wpIn_wide (n := 0)).1 ?_
            apply range_lawP1 (gf := 39) (lb := #[.pointer (some ⟨wr.heap.size + 1 + 1, 0, none⟩), .pointer (some ⟨wr.heap.size + 1, 0, none⟩)]) rfl EG hseq (fun _ => rfl)
              (fun hi k W => Box W wr.heap.size (.int .i64 k) 3 ∧ KeepsB wr.heap.size w5 W ∧ (k = 0 ∨ k < stop)) (fun c hi k W => c = .exit 5 ∧ Box W wr.heap.size (.int .i64 k) 3 ∧ KeepsB wr.heap.size w5 W ∧ k = max stop 1) ?hI ?hIx ?hIn ?h0 _ ?assign ?body ?done ?stop
            case assign =>
              rintro l hi k W K _ _ hj hk hK
              have HJ := Lib.hid hj
              clear hj
              gi_wp2
              exact hK _ (Below.refl _ _) HJ.out
            case hI =>
              rintro hi k A C row ⟨h1, h3, h4⟩ hgr hr
              have := H5.out.2.2.2.1
              exact ⟨h1.own hgr hr (by omega), h3.own hgr hr (Nat.le_refl _), h4⟩
            case hIx =>
              rintro c hi k A C row ⟨h0, h1, h3, h4⟩ hgr hr
              have := H5.out.2.2.2.1
              exact ⟨h0, h1.own hgr hr (by omega), h3.own hgr hr (Nat.le_refl _), h4⟩
            case hIn =>
              rintro hi k A C hlo hhi ⟨h1, h3, h4⟩ hin
              have := H5.out.2.2.2.1
              exact ⟨(hin.block _ h1.lt (by omega)).trans h1, h3.inner hin (by omega), h4⟩
            case h0 =>
              intro W' hb' _
              exact ⟨H5.out.2.2.1.below hb', ⟨hb'.os, hb'.tape, hb'.output, hb'.size, fun j hj _ => hb'.block j hj⟩, .inl rfl⟩
            case body =>
              rintro l hi k W hlo hhi ⟨h1, h3, h4⟩ hk
              obtain ⟨hr5, hbW5, _, hs5, hlt5, ha1, ha2, ha3, ha4, ha5, hp5, hle5, hn5⟩ := H5.out
              have hbs := h3.box hr5.bs (by omega)
              have hbM := h3.box hr5.bm (by omega)
              have hbW := h3.box hbW5 (by omega)
              obtain ⟨gm, om, cur, fr, rfl, hgB, hgm, m0, m9⟩ := hr5.lie.2 k (by omega)
              have hgne : gm ≠ wr.heap.size := by
                rintro rfl
                have := hgm.symm.trans H5.out.2.2.1
                simp at this
              have mk : W.cell? ⟨gm, om + k * 2, none⟩ = some (.int .i64 (pl k)) := by
                rw [← HPL.out k, g_get (show k < m.length by omega), ← m0]
                exact World.cell?_of_block (h3.block gm (Array.getElem?_eq_some_iff.1 hgm).1 hgne)
              have cn := h1.cell
              have fn := h1.frozen
              have cs := hbs.cell
              have cM := hbM.cell
              have cW := hbW.cell
              have hwr : IntKind.i64.wrap ((k : Int) + 1) = (k : Int) + 1 := by rw [IntKind.wrap_i64] <;> omega
              have hws : IntKind.i64.wrap (stop : Int) = (stop : Int) := by rw [IntKind.wrap_i64] <;> omega
              have h1s := h1.set (.int .i64 ((k : Int) + 1))
              have cs2 := (Box.set_other (u := .int .i64 ((k : Int) + 1)) hbs (show w.heap.size ≠ wr.heap.size by omega)).cell
              have HJ := Lib.hid (And.intro h1s (And.intro (h3.set (.int .i64 ((k : Int) + 1))) (And.intro h4 (And.intro hs5 (And.intro hlt5 hlo)))))
              have hkj : (k : Int) < (j : Int) := by omega
              have hkN : decide ((k : Int) ≥ (N : Int)) = false := decide_eq_false (by omega)
              have hkk : (pl k != pl k) = false := by simp
              clear h1 h3 h4 hr5 hbW5 hs5 hlt5 ha1 ha2 ha3 ha4 ha5 hp5 hle5 hn5 hbs hbM hbW m0 m9 hgB hgm hgne h1s hlo hhi hseq EG
              by_cases hst : (stop : Int) ≤ (k : Int) + 1
              · have hd : decide ((k : Int) + 1 ≥ (stop : Int)) = true := decide_eq_true hst
                gi_wp2
                obtain ⟨hj1, hj2, h4, hs5, hlt5, hlo⟩ := HJ.out
                refine ⟨from_set _ _ (by omega), rfl, ?_, hj2, by omega⟩
                rw [show ((k + 1 : Nat) : Int) = (k : Int) + 1 from by omega]
                exact hj1
              · have hd : decide ((k : Int) + 1 ≥ (stop : Int)) = false := decide_eq_false hst
                gi_wp2
                obtain ⟨hj1, hj2, h4, hs5, hlt5, hlo⟩ := HJ.out
                refine ⟨from_set _ _ (by omega), kp_set _ _ (by omega) (by omega), ?_, hj2, .inr (by omega)⟩
                rw [show ((k + 1 : Nat) : Int) = (k : Int) + 1 from by omega]
                exact hj1
            case done =>
              rintro D hi W hD _ ⟨h1, h3, h4⟩ hdef
              obtain ⟨hr5, hbW5, _, hs5, hlt5, ha1, ha2, ha3, ha4, ha5, hp5, hle5, hn5⟩ := H5.out
              have cn := h1.cell
              have hE := h3.box hr5.be (by omega)
              have hWW := h3.box hbW5 (by omega)
              have cE := hE.cell
              have fE := hE.frozen
              have cW := hWW.cell
              have hbW : Below w.heap.size w W := h3.below hr5.below ha5 hr5.below.size
              have HX := Lib.hid (And.intro (hE.set (.bool true)) (And.intro (show Below w.heap.size w (W.setCell ⟨w.heap.size + 1, 0, none⟩ (.bool true)) from below_set hbW (by omega) _) (And.intro (show (W.setCell ⟨w.heap.size + 1, 0, none⟩ (.bool true)).heap[D]? = some (.deferred (some [])) from (heap_setCell_other _ ⟨w.heap.size + 1, 0, none⟩ D _ (by
                show D ≠ w.heap.size + 1
                omega)).trans hdef) (show w.heap.size ≤ D ∧ D ≠ w.heap.size + 1 from ⟨by omega, by omega⟩))))
              clear h1 h3 h4 hE hbW hWW hdef hseq EG hr5 hbW5 hs5 hlt5 ha1 ha2 ha3 ha4 ha5 hp5 hle5 hn5 hD
              have hzz : ((N : Int) == (N : Int)) = true := beq_self_eq_true _
              go_wp2
              all_goals first
                | (rename_i x b h1 h2; simp [undef] at h1; done)
                | (refine ⟨by simp, .inl ⟨_, _, rfl, run_takeDeferred HX.out.2.2.1, ?_⟩⟩
                   obtain ⟨hX1, hbe, hX3, hD1, hD2⟩ := HX.out
                   have h : Box ((W.setCell ⟨w.heap.size + 1, 0, none⟩ (.bool true)).putObj D (.deferred none)) (w.heap.size + 1) (.bool true) 4 := (World.putObj_heap_other (by omega)).trans hX1
                   have h := h.cell
                   refine ⟨.bool true, ?_, rfl, hbe.os, hbe.tape, hbe.output, by simpa using hbe.size, fun j hj => (World.putObj_heap_other (by omega)).trans (hbe.block j hj)⟩
                   simp [results, Try.results5, go_sem, h])
            case stop =>
              rintro D hi c k W hD _ hk ⟨rfl, h1, h3, h4⟩ hdef
              obtain ⟨hr5, hbW5, _, hs5, hlt5, ha1, ha2, ha3, ha4, ha5, hp5, hle5, hn5⟩ := H5.out
              have cn := h1.cell
              have hE := h3.box hr5.be (by omega)
              have hWW := h3.box hbW5 (by omega)
              have hS := h3.box hr5.bs (by omega)
              have cE := hE.cell
              have fE := hE.frozen
              have cW := hWW.cell
              have cs := hS.cell
              have hws : IntKind.i64.wrap (stop : Int) = (stop : Int) := by rw [IntKind.wrap_i64] <;> omega
              have hbW : Below w.heap.size w W := h3.below hr5.below ha5 hr5.below.size
              have HX := Lib.hid (And.intro (hE.set (.bool true)) (And.intro (show Below w.heap.size w (W.setCell ⟨w.heap.size + 1, 0, none⟩ (.bool true)) from below_set hbW (by omega) _) (And.intro (show (W.setCell ⟨w.heap.size + 1, 0, none⟩ (.bool true)).heap[D]? = some (.deferred (some [])) from (heap_setCell_other _ ⟨w.heap.size + 1, 0, none⟩ D _ (by
                show D ≠ w.heap.size + 1
                omega)).trans hdef) (show w.heap.size ≤ D ∧ D ≠ w.heap.size + 1 from ⟨by omega, by omega⟩))))
              clear h1 h3 hE hS hbW hWW hdef hseq EG hr5 hbW5 hs5 hlt5 ha1 ha2 ha3 ha4 ha5 hp5 hle5 hn5 hD
              refine wpIn_wide.2 ?_
              by_cases hkN : k = N
              · subst hkN
                have hzz : ((k : Int) == (k : Int)) = true := beq_self_eq_true _
                go_wp2
                all_goals first
                  | (rename_i x b h1 h2; simp [undef] at h1; done)
                  | (refine ⟨by simp, .inl ⟨_, _, rfl, run_takeDeferred HX.out.2.2.1, ?_⟩⟩
                     obtain ⟨hX1, hbe, hX3, hD1, hD2⟩ := HX.out
                     have h : Box ((W.setCell ⟨w.heap.size + 1, 0, none⟩ (.bool true)).putObj D (.deferred none)) (w.heap.size + 1) (.bool true) 4 := (World.putObj_heap_other (by omega)).trans hX1
                     have h := h.cell
                     refine ⟨.bool true, ?_, rfl, hbe.os, hbe.tape, hbe.output, by simpa using hbe.size, fun j hj => (World.putObj_heap_other (by omega)).trans (hbe.block j hj)⟩
                     simp [results, Try.results5, go_sem, h])
              · have hz1 : ((k : Int) == (N : Int)) = false := beq_eq_false_iff_ne.2 (by omega)
                have hz2 : (k : Int) < (N : Int) := by omega
                have hz3 : ((max stop 1 : Nat) : Int) = max (stop : Int) 1 := by omega
                go_wp2
                refine ⟨by simp, .inl ⟨_, _, rfl, run_takeDeferred HX.out.2.2.1, ?_⟩⟩
                obtain ⟨hX1, hbe, hX3, hD1, hD2⟩ := HX.out
                have h : Box ((W.setCell ⟨w.heap.size + 1, 0, none⟩ (.bool true)).putObj D (.deferred none)) (w.heap.size + 1) (.bool true) 4 := (World.putObj_heap_other (by omega)).trans hX1
                have h := h.cell
                refine ⟨.bool true, ?_, rfl, hbe.os, hbe.tape, hbe.output, by simpa using hbe.size, fun j hj => (World.putObj_heap_other (by omega)).trans (hbe.block j hj)⟩
                simp [results, Try.results5, go_sem, h]
  · have hd : decide ((ys.length : Int) > 200) = true := decide_eq_true (by omega)
    go_wp2_with fail
    refine (KA.out _).mono ?_
    rintro e w2 ⟨rfl, hb2⟩
    have hbx2 := H1.out.2.1.below hb2
    have c2 := hbx2.cell
    have f2 := hbx2.frozen
    have H2 := Lib.hid (And.intro (hbx2.set (.bool true)) (below_set (bT' H1.out.2.2 hb2 H1.out.2.2.size) (show w.heap.size ≤ w.heap.size + 1 by omega) (.bool true)))
    clear hb2 hbx2
    go_wp2
    refine ⟨.bool true, ?_, rfl, H2.out.2⟩
    have h := H2.out.1.cell
    simp [results, Try.results5, go_sem, h]
end Go.Proofs.Ytngeinmpnjfhfaa
