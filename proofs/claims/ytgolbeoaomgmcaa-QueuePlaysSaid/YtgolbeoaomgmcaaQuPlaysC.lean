/-
  The law QueuePlays over this seat's translation: every call, in every order, answers what the document says; a copy is alike, and apart. Conditions: those that each theorem states.
-/
import Derived.Test.YtgolbeoaomgmcaaQuPlaysM
namespace Go.Proofs.Ytgolbeoaomgmcaa
open Go.RowKit Go.Shelf Go.Lib Go.Sort Qu
attribute [local go_sem] Oper.semAt_some

set_option maxHeartbeats 64000000 in
set_option maxRecDepth 1000000 in
theorem plays_c (room : Nat) (q0 : Option Addr) (cap : Nat) (ys : List Ac) (w : World) (hy : InList cA w q0 ys) (hyb : ∀ y ∈ ys, 0 ≤ y.1 ∧ y.1 ≤ 255 ∧ W64 y.2) (hroom : room ≤ 255) :
    Calls Try.prog 4 #[.int .u8 room, .slice q0 ys.length cap] w fun e w' => e = .returned (.bool true) ∧ Below w.heap.size w w' := by
  have mixed : Try.prog.follows .mixedOrders = true := by kernel_rfl
  have egl : ∀ args w, (callFunc 10 args).run Try.prog w = .ok (.enter 10 args) w := enters_of Try.func10 (by kernel_rfl) rfl
  have KA := Lib.hid fun (W : World) => awake_c W
  have HY := Lib.hid (And.intro hy hyb)
  clear hy hyb
  refine (callsIn_wide (n := 0)).1 ?_
  refine callsIn_of_wp_marks Try.func4 rfl trivial ?_ rfl
  simp only [Try.ntmps4, List.size_toArray, List.length_cons, List.length_nil, Nat.reduceAdd, Nat.reduceSub, Array.replicate_succ, Array.replicate_zero, List.push_toArray, List.append_toArray, List.nil_append, List.cons_append]
  refine wpIn_wide.2 ?_
  have H0 := Lib.hid (And.intro (Box.new w (.bool false) 4) (bA' (Below.refl w.heap.size w) (Nat.le_refl _) (.cells #[.bool false] 4)))
  go_wp2_with fail
  refine (KA.out _).mono ?_
  rintro e w1 ⟨rfl, hb1⟩
  have H1 := Lib.hid (And.intro (H0.out.1.below hb1) (bT2 H0.out.2 hb1))
  clear hb1 H0
  by_cases hlen : ys.length ≤ 300
  · have hd : decide ((ys.length : Int) > 300) = false := decide_eq_false (by omega)
    obtain ⟨rr, hrr⟩ : ∃ rr : Nat, room % 9 = rr := ⟨_, rfl⟩
    have hr1 : Int.tmod (room : Int) 9 = (rr : Int) := by rw [Int.tmod_eq_emod_of_nonneg (by omega)]; omega
    have hw8 : IntKind.u8.wrap (rr : Int) = (rr : Int) := by
      have : rr = 0 ∨ rr = 1 ∨ rr = 2 ∨ rr = 3 ∨ rr = 4 ∨ rr = 5 ∨ rr = 6 ∨ rr = 7 ∨ rr = 8 := by omega
      rcases this with h | h | h | h | h | h | h | h | h <;> (rw [h]; decide)
    have hw64 : IntKind.i64.wrap (rr : Int) = (rr : Int) := by rw [IntKind.wrap_i64] <;> omega
    have hw1 : IntKind.i64.wrap (1 + (rr : Int)) = ((1 + rr : Nat) : Int) := by rw [IntKind.wrap_i64] <;> omega
    obtain ⟨k, hk⟩ : ∃ k : Nat, 1 + rr = k := ⟨_, rfl⟩
    rw [hk] at hw1
    have KN := Lib.hid (new_o (k : Int) (by omega) w1)
    have HL := Lib.hid (show k ≤ 9 from by omega)
    clear hrr hk
    go_wp2_with fail
    refine KN.out.mono ?_
    rintro e w2 ⟨q, rfl, hown, hb2⟩
    rw [Int.toNat_natCast] at hown
    obtain ⟨w3, hw3⟩ : ∃ w3, (w2.alloc (.cells #[.int .i64 (k : Nat), .slice none 0 0] 38)).alloc (.cells #[.pointer (some ⟨w2.heap.size, 0, none⟩)] 35) = w3 := ⟨_, rfl⟩
    have hbm : Below w2.heap.size w2 (w2.alloc (.cells #[.int .i64 (k : Nat), .slice none 0 0] 38)) := bA' (Below.refl _ _) (Nat.le_refl _) _
    have hb3 : Below w2.heap.size w2 w3 := by rw [← hw3]; exact hbm.alloc hbm.size _
    have hm3 : w3.heap[w2.heap.size]? = some (.cells #[.int .i64 (k : Nat), .slice none 0 0] 38 (0, 0)) := by rw [← hw3, Below.heap_alloc _ _ _ (by simp)]; exact World.alloc_heap_new w2 _
    have hM3 : Box w3 (w2.heap.size + 1) (.pointer (some ⟨w2.heap.size, 0, none⟩)) 35 := by
      have := World.alloc_heap_new (w2.alloc (.cells #[.int .i64 (k : Nat), .slice none 0 0] 38)) (.cells #[.pointer (some ⟨w2.heap.size, 0, none⟩)] 35)
      rw [World.size_alloc] at this
      rw [← hw3]
      exact this
    have hsz1 := H1.out.2.size
    have H3 := Lib.hid (show PlI w k q w2.heap.size (w2.heap.size + 1) 0 none none none [] w3 from
      ⟨⟨bT' (bT' H1.out.2 hb2 hsz1) hb3 (Nat.le_trans hsz1 hb2.size), (H1.out.1.below hb2).below hb3, hM3, ⟨hm3, Nat.le_refl _, .inl rfl, fun g e => by cases e⟩, Nat.le_trans hsz1 hb2.size⟩,
        Own.below ⟨hown.que, Nat.le_trans hsz1 hown.b1, fun g e => by cases e⟩ hb3, fun g e => by cases e⟩)
    have HW3 := Lib.hid hw3
    clear hb2 hown KN H1 hr1 hw8 hw64 hw1 hbm hb3 hm3 hM3 hsz1 hw3
    go_wp2_with fail
    rw [HW3.out]
    clear HW3
    obtain ⟨mb, hmb⟩ : ∃ mb, w2.heap.size = mb := ⟨_, rfl⟩
    obtain ⟨Mb, hMb⟩ : ∃ Mb, w2.heap.size + 1 = Mb := ⟨_, rfl⟩
    rw [hMb, hmb] at H3
    simp only [hMb]
    simp only [hmb]
    clear hMb hmb
    go_loopw [6, 9] (fun qv iv wr => ∃ (i q c : Nat) (r : Option Nat) (pq p : Option Addr) (xs : List Int), qv = .pointer (some ⟨q, 0, none⟩) ∧ iv = .int .i64 i ∧ i ≤ ys.length ∧ Hid (PlI w k q mb Mb c r pq p xs wr)) (fun _ v _ => ys.length - (intOf v).toNat)
    case atStart => exact ⟨0, q, 0, none, none, none, [], rfl, rfl, Nat.zero_le _, H3⟩
    case round =>
      clear H3
      obtain ⟨i, q, c, r, pq, p, xs, rfl, rfl, hi, HP⟩ := hrel
      have HKL := Lib.hid (show xs.length ≤ 1000 from by have := HP.out.own.box; have := HL.out; omega)
      by_cases hlt : i < ys.length
      · have hiz : (i : Int) < (ys.length : Int) := by omega
        have hp := HP.out
        have hsz := hp.rest.below.size
        obtain ⟨gl, off, hqa, hcells⟩ := (HY.out.1.below hp.rest.below).acts (by omega)
        subst hqa
        obtain ⟨c0, c1⟩ := hcells i hlt
        have hdb := HY.out.2 ys[i] (List.getElem_mem hlt)
        obtain ⟨⟨d, xa⟩, hd0⟩ : ∃ y : Ac, ys[i] = y := ⟨_, rfl⟩
        rw [hd0] at c0 c1 hdb
        dsimp only at c0 c1 hdb
        have hri : IntKind.i64.wrap ((i : Int) + 1) = ((i + 1 : Nat) : Int) := by rw [IntKind.wrap_i64]; omega
        obtain ⟨r5, hr1, h5⟩ : ∃ r5 : Int, Int.tmod d 5 = r5 ∧ (r5 = 0 ∨ r5 = 1 ∨ r5 = 2 ∨ r5 = 3 ∨ r5 = 4) := ⟨_, rfl, by rw [Int.tmod_eq_emod_of_nonneg hdb.1]; omega⟩
        clear hd0 hcells hdb
        rcases h5 with rfl | rfl | rfl | rfl | rfl
        · have K1 := Lib.hid fun (W : World) (hb : Below wr.heap.size wr W) => push_o xa (hp.own.below hb) (Nat.le_trans hsz hb.size)
          have m8 := hp.rest.cells.1
          obtain ⟨e0, he0⟩ : ∃ e0, pushR k xs = e0 := ⟨_, rfl⟩
          obtain ⟨ys2, hys2⟩ : ∃ ys2, pushT k xs xa = ys2 := ⟨_, rfl⟩
          rw [he0, hys2] at K1
          have HE := Lib.hid (And.intro he0 hys2)
          have hee : (e0 == e0) = true := by simp
          clear hp hsz he0 hys2
          go_wp2_with fail
          refine wp_region_noPanic ?_
          go_region_law (first
              | (go_simp; go_at_call 9; refine (K1.out _ (by first | exact Below.refl _ _ | exact (G.drew wr 1).below)).mono ?_; rintro e w5 ⟨rfl, p5, ho5, ht5, hn5, hb5⟩; have HQ := Lib.hid (And.intro ho5 (And.intro (show Touch q (blk pq) wr w5 from by first | exact ht5 | exact (Touch.below (G.drew wr 1).below).trans ht5 (.inl rfl)) (And.intro (show New pq p5 wr from hn5) (show Below w.heap.size wr w5 from by first | exact hb5 | exact (Below.drew (Below.refl _ _)).trans hb5)))); have h5 := HP.out.rest.que HP.out.own HP.out.ap HQ.out.2.1 HQ.out.2.2.2; have m5 := h5.cells.1; have K2 := Lib.hid (rpush_o xa h5.ref HKL.out); rw [HE.out.1, HE.out.2] at K2; clear ho5 ht5 hn5 hb5 h5)
              | (go_simp; go_at_call 12; refine K2.out.mono ?_; rintro e w6 ⟨rfl, r6, p6, c6, hr6, hrn6, ht6⟩; have HN := Lib.hid (HP.out.push HQ.out.1 HQ.out.2.1 HQ.out.2.2.1 HQ.out.2.2.2 hr6 hrn6 ht6); clear hr6 hrn6 ht6))
          all_goals refine NoPanic.normal ?_
          all_goals clear m8 m5 K1 K2 HQ HP
          all_goals
            have hpn := HN.out
            obtain ⟨mB, mI⟩ := hpn.rest.cells
            have c2 := hpn.own.box.1
            obtain ⟨n, hn⟩ : ∃ n, (ys2).length = n := ⟨_, rfl⟩
            rw [hn] at mI c2
            have g1 := cg mB
            have g2 := cg mI
            have KLN := Lib.hid fun (nn : Nat) (os : Array Obj) => len_g q n (grow ((w6).drewN nn) os) (cg c2 nn os)
            have hnn : ((n : Int) != (n : Int)) = false := by simp
            have hnn2 : ((n : Int) == (n : Int)) = true := by simp
            clear hpn hn c2
            go_wp2_with fail
            go_quiet_grown (first | (go_at_fn 10; exact Calls.grown_of (KLN.out _ _)))
            have HN2 := Lib.hid (HN.out.on (G.below ⟨nq, osq, rfl⟩))
            clear g1 g2 mB mI KLN HN
            generalize grow ((w6).drewN nq) osq = W2 at *
            go_wp2
            exact ⟨⟨i + 1, q, c6, r6, p5, p6, ys2, rfl, rfl, by omega, HN2⟩, by simp [intOf]; omega⟩
        · have K1 := Lib.hid fun (W : World) (hb : Below wr.heap.size wr W) => push_o xa (hp.own.below hb) (Nat.le_trans hsz hb.size)
          have m8 := hp.rest.cells.1
          obtain ⟨e0, he0⟩ : ∃ e0, pushR k xs = e0 := ⟨_, rfl⟩
          obtain ⟨ys2, hys2⟩ : ∃ ys2, pushT k xs xa = ys2 := ⟨_, rfl⟩
          rw [he0, hys2] at K1
          have HE := Lib.hid (And.intro he0 hys2)
          have hee : (e0 == e0) = true := by simp
          clear hp hsz he0 hys2
          go_wp2_with fail
          refine wp_region_noPanic ?_
          go_region_law (first
              | (go_simp; go_at_call 9; refine (K1.out _ (by first | exact Below.refl _ _ | exact (G.drew wr 1).below)).mono ?_; rintro e w5 ⟨rfl, p5, ho5, ht5, hn5, hb5⟩; have HQ := Lib.hid (And.intro ho5 (And.intro (show Touch q (blk pq) wr w5 from by first | exact ht5 | exact (Touch.below (G.drew wr 1).below).trans ht5 (.inl rfl)) (And.intro (show New pq p5 wr from hn5) (show Below w.heap.size wr w5 from by first | exact hb5 | exact (Below.drew (Below.refl _ _)).trans hb5)))); have h5 := HP.out.rest.que HP.out.own HP.out.ap HQ.out.2.1 HQ.out.2.2.2; have m5 := h5.cells.1; have K2 := Lib.hid (rpush_o xa h5.ref HKL.out); rw [HE.out.1, HE.out.2] at K2; clear ho5 ht5 hn5 hb5 h5)
              | (go_simp; go_at_call 12; refine K2.out.mono ?_; rintro e w6 ⟨rfl, r6, p6, c6, hr6, hrn6, ht6⟩; have HN := Lib.hid (HP.out.push HQ.out.1 HQ.out.2.1 HQ.out.2.2.1 HQ.out.2.2.2 hr6 hrn6 ht6); clear hr6 hrn6 ht6))
          all_goals refine NoPanic.normal ?_
          all_goals clear m8 m5 K1 K2 HQ HP
          all_goals
            have hpn := HN.out
            obtain ⟨mB, mI⟩ := hpn.rest.cells
            have c2 := hpn.own.box.1
            obtain ⟨n, hn⟩ : ∃ n, (ys2).length = n := ⟨_, rfl⟩
            rw [hn] at mI c2
            have g1 := cg mB
            have g2 := cg mI
            have KLN := Lib.hid fun (nn : Nat) (os : Array Obj) => len_g q n (grow ((w6).drewN nn) os) (cg c2 nn os)
            have hnn : ((n : Int) != (n : Int)) = false := by simp
            have hnn2 : ((n : Int) == (n : Int)) = true := by simp
            clear hpn hn c2
            go_wp2_with fail
            go_quiet_grown (first | (go_at_fn 10; exact Calls.grown_of (KLN.out _ _)))
            have HN2 := Lib.hid (HN.out.on (G.below ⟨nq, osq, rfl⟩))
            clear g1 g2 mB mI KLN HN
            generalize grow ((w6).drewN nq) osq = W2 at *
            go_wp2
            exact ⟨⟨i + 1, q, c6, r6, p5, p6, ys2, rfl, rfl, by omega, HN2⟩, by simp [intOf]; omega⟩
        · have K1 := Lib.hid (pop_o hp.own hsz)
          obtain ⟨y0, hy0⟩ : ∃ y0, gI xs 0 = y0 := ⟨_, rfl⟩
          obtain ⟨b0, hb0⟩ : ∃ b0, decide (0 < xs.length) = b0 := ⟨_, rfl⟩
          rw [hy0, hb0] at K1
          have HE := Lib.hid (And.intro hy0 hb0)
          have hyy : (y0 == y0) = true := by simp
          have hbb : (b0 == b0) = true := by simp
          clear hp hsz hy0 hb0
          go_wp2_with fail
          refine K1.out.mono ?_
          rintro e w5 ⟨rfl, ho5, ht5, hb5⟩
          have h5 := HP.out.rest.que HP.out.own HP.out.ap ht5 hb5
          have K2 := Lib.hid (rpop_o h5.ref HKL.out)
          rw [HE.out.1, HE.out.2] at K2
          have m5 := h5.cells.1
          have HQ := Lib.hid (And.intro ho5 h5)
          clear ho5 ht5 hb5 h5 K1
          go_wp2_with fail
          refine K2.out.mono ?_
          rintro e w6 ⟨rfl, r6, p6, c6, hr6, hrn6, ht6⟩
          have HN := Lib.hid (show PlI w k q mb Mb c6 r6 pq p6 xs.tail w6 from ⟨HQ.out.2.refd hr6 ht6, HQ.out.1.refd HQ.out.2.ref ht6, fun g e e2 => HP.out.ap g e (hrn6 g e2)⟩)
          clear hr6 hrn6 ht6 m5 HQ HP K2
          go_wp2_with fail
          have hpn := HN.out
          obtain ⟨mB, mI⟩ := hpn.rest.cells
          have c2 := hpn.own.box.1
          obtain ⟨n, hn⟩ : ∃ n, (xs.tail).length = n := ⟨_, rfl⟩
          rw [hn] at mI c2
          have g1 := cg mB
          have g2 := cg mI
          have KLN := Lib.hid fun (nn : Nat) (os : Array Obj) => len_g q n (grow ((w6).drewN nn) os) (cg c2 nn os)
          have hnn : ((n : Int) != (n : Int)) = false := by simp
          have hnn2 : ((n : Int) == (n : Int)) = true := by simp
          clear hpn hn c2
          go_wp2_with fail
          go_quiet_grown (first | (go_at_fn 10; exact Calls.grown_of (KLN.out _ _)))
          have HN2 := Lib.hid (HN.out.on (G.below ⟨nq, osq, rfl⟩))
          clear g1 g2 mB mI KLN HN
          generalize grow ((w6).drewN nq) osq = W2 at *
          go_wp2
          exact ⟨⟨i + 1, q, c6, r6, pq, p6, xs.tail, rfl, rfl, by omega, HN2⟩, by simp [intOf]; omega⟩
        · have K1 := Lib.hid (peek_o hp.own)
          have HPP := Lib.hid hp
          clear hsz
          cases xs with
          | nil =>
            rw [show gI [] 0 = 0 from rfl, show decide (0 < ([] : List Int).length) = false from rfl] at K1
            clear hp
            go_wp2_with fail
            refine K1.out.mono ?_
            rintro e w5 ⟨rfl, hb5⟩
            have HN := Lib.hid (HPP.out.on hb5)
            obtain ⟨m5, i5⟩ := HN.out.rest.cells
            rw [List.length_nil] at i5
            clear hb5 K1 HP HPP
            go_wp2_with fail
            clear m5 i5
            have hpn := HN.out
            obtain ⟨mB, mI⟩ := hpn.rest.cells
            have c2 := hpn.own.box.1
            obtain ⟨n, hn⟩ : ∃ n, (([] : List Int)).length = n := ⟨_, rfl⟩
            rw [hn] at mI c2
            have g1 := cg mB
            have g2 := cg mI
            have KLN := Lib.hid fun (nn : Nat) (os : Array Obj) => len_g q n (grow ((w5).drewN nn) os) (cg c2 nn os)
            have hnn : ((n : Int) != (n : Int)) = false := by simp
            have hnn2 : ((n : Int) == (n : Int)) = true := by simp
            clear hpn hn c2
            go_wp2_with fail
            go_quiet_grown (first | (go_at_fn 10; exact Calls.grown_of (KLN.out _ _)))
            have HN2 := Lib.hid (HN.out.on (G.below ⟨nq, osq, rfl⟩))
            clear g1 g2 mB mI KLN HN
            generalize grow ((w5).drewN nq) osq = W2 at *
            go_wp2
            exact ⟨⟨i + 1, q, c, r, pq, p, [], rfl, rfl, by omega, HN2⟩, by simp [intOf]; omega⟩
          | cons x zs =>
            rw [show gI (x :: zs) 0 = x from rfl, show decide (0 < (x :: zs).length) = true from rfl] at K1
            clear hp
            go_wp2_with fail
            refine K1.out.mono ?_
            rintro e w5 ⟨rfl, hb5⟩
            have HN := Lib.hid (HPP.out.on hb5)
            obtain ⟨m5, i5⟩ := HN.out.rest.cells
            rcases HN.out.rest.ref.lie with hl | ⟨g, off, hrg, hpg, hlc⟩
            · cases hl
            have a5 := hlc 0 (by simp)
            simp only [Nat.add_zero, List.getElem_cons_zero] at a5
            rw [hpg] at i5
            have hpos : (x :: zs).length > 0 := by simp
            obtain ⟨n0, hn0⟩ : ∃ n0, (x :: zs).length = n0 := ⟨_, rfl⟩
            rw [hn0] at i5 hpos
            have hz1 : decide ((n0 : Int) > 0) = true := decide_eq_true (by omega)
            have hz2 : (0 : Int) < (n0 : Int) := by omega
            have hz3 : decide (0 < n0) = true := decide_eq_true hpos
            have hxx : (x == x) = true := by simp
            clear hb5 K1 HP HPP hlc hrg hn0 hpg
            go_wp2_with fail
            clear m5 i5 a5 hz1 hz2 hz3
            have hpn := HN.out
            obtain ⟨mB, mI⟩ := hpn.rest.cells
            have c2 := hpn.own.box.1
            obtain ⟨n, hn⟩ : ∃ n, (x :: zs).length = n := ⟨_, rfl⟩
            rw [hn] at mI c2
            have g1 := cg mB
            have g2 := cg mI
            have KLN := Lib.hid fun (nn : Nat) (os : Array Obj) => len_g q n (grow ((w5).drewN nn) os) (cg c2 nn os)
            have hnn : ((n : Int) != (n : Int)) = false := by simp
            have hnn2 : ((n : Int) == (n : Int)) = true := by simp
            clear hpn hn c2
            go_wp2_with fail
            go_quiet_grown (first | (go_at_fn 10; exact Calls.grown_of (KLN.out _ _)))
            have HN2 := Lib.hid (HN.out.on (G.below ⟨nq, osq, rfl⟩))
            clear g1 g2 mB mI KLN HN
            generalize grow ((w5).drewN nq) osq = W2 at *
            go_wp2
            exact ⟨⟨i + 1, q, c, r, pq, p, x :: zs, rfl, rfl, by omega, HN2⟩, by simp [intOf]; omega⟩
        · have K1 := Lib.hid (copy_o hp.own hsz)
          have HSZ := Lib.hid hsz
          clear hp hsz
          go_wp2_with fail
          refine K1.out.mono ?_
          rintro e w5 ⟨c5, gc, rfl, hoc, hc5, hg5, hb5⟩
          have hoq := HP.out.own.below hb5
          have h5 := HP.out.rest.on hb5
          have hlq := HP.out.own.lt
          have hlc := hoc.lt
          have K2 := Lib.hid (push_o xa hoq (Nat.le_trans HSZ.out hb5.size))
          have HQ := Lib.hid (And.intro hoq (And.intro h5 (And.intro hoc (And.intro (show c5 ≠ q by omega) (And.intro (show wr.heap.size ≤ gc ∧ gc < w5.heap.size from ⟨hg5, hlc.2 gc rfl⟩) (Nat.le_trans HSZ.out hb5.size))))))
          clear hoq h5 hlq hlc hoc hc5 hg5 hb5 K1
          go_wp2_with fail
          refine K2.out.mono ?_
          rintro e w6 ⟨rfl, p6, ho6, ht6, hn6, hb6⟩
          obtain ⟨hoq, h5, hoc, hne, hg5, hz5⟩ := HQ.out
          have hoc6 := hoc.apart hoq ht6 hne fun g e e2 => by
            simp [blk] at e
            have := HP.out.own.lt.2 g e2
            omega
          have h6 := h5.que hoq HP.out.ap ht6 hb6
          have hap6 : ∀ g, blk p6 = some g → r ≠ some g ∧ g ≠ gc := fun g e => by
            rcases hn6 with rfl | hn6
            · refine ⟨HP.out.ap g e, ?_⟩
              have := HP.out.own.lt.2 g e
              omega
            · have := hn6 g e
              refine ⟨fun e2 => ?_, by omega⟩
              have := h5.ref.lt.2 g e2
              omega
          have K3 := Lib.hid (pop_o ho6 (Nat.le_trans hz5 ht6.size))
          have HQ6 := Lib.hid (And.intro ho6 (And.intro h6 (And.intro hoc6 (And.intro hne hap6))))
          have HG := Lib.hid hg5
          clear hoq h5 hoc hg5 hz5 hoc6 h6 hap6 ho6 ht6 hn6 hb6 hne K2 HQ
          go_wp2_with fail
          refine K3.out.mono ?_
          rintro e w7 ⟨rfl, ho7, ht7, hb7⟩
          obtain ⟨ho6, h6, hoc6, hne, hap6⟩ := HQ6.out
          have HN := Lib.hid (show PlI w k c5 mb Mb c r (some ⟨gc, 0, none⟩) p xs w7 from ⟨h6.que ho6 (fun g e => (hap6 g e).1) ht7 hb7, hoc6.apart ho6 ht7 hne fun g e e2 => by
              simp [blk] at e
              exact (hap6 g e2).2 e.symm, fun g e e2 => by
              simp [blk] at e
              have := HP.out.rest.ref.lt.2 g e2
              have := HG.out.1
              omega⟩)
          clear ho6 h6 hoc6 hne hap6 ho7 ht7 hb7 K3 HQ6 HG HP
          go_wp2_with fail
          have hpn := HN.out
          obtain ⟨mB, mI⟩ := hpn.rest.cells
          have c2 := hpn.own.box.1
          obtain ⟨n, hn⟩ : ∃ n, (xs).length = n := ⟨_, rfl⟩
          rw [hn] at mI c2
          have g1 := cg mB
          have g2 := cg mI
          have KLN := Lib.hid fun (nn : Nat) (os : Array Obj) => len_g c5 n (grow ((w7).drewN nn) os) (cg c2 nn os)
          have hnn : ((n : Int) != (n : Int)) = false := by simp
          have hnn2 : ((n : Int) == (n : Int)) = true := by simp
          clear hpn hn c2
          go_wp2_with fail
          go_quiet_grown (first | (go_at_fn 10; exact Calls.grown_of (KLN.out _ _)))
          have HN2 := Lib.hid (HN.out.on (G.below ⟨nq, osq, rfl⟩))
          clear g1 g2 mB mI KLN HN
          generalize grow ((w7).drewN nq) osq = W2 at *
          go_wp2
          exact ⟨⟨i + 1, c5, c, r, some ⟨gc, 0, none⟩, p, xs, rfl, rfl, by omega, HN2⟩, by simp [intOf]; omega⟩
      · obtain rfl : i = ys.length := by omega
        have hb1 : Below wr.heap.size wr (wr.alloc (.cells #[.int .i64 0] 3)) := bA' (Below.refl _ _) (Nat.le_refl _) _
        have KF := Lib.hid (allf_c (some ⟨q, 0, none⟩) (wr.alloc (.cells #[.int .i64 0] 3)))
        go_wp2_with fail
        refine KF.out.mono ?_
        rintro e w5 ⟨rfl, hw5⟩
        have hbw5 : Below wr.heap.size wr w5 := by rw [hw5]; exact bA' hb1 hb1.size _
        have hnb : Box w5 wr.heap.size (.int .i64 0) 3 := by rw [hw5]; exact (Box.new wr _ _).below (bA' (Below.refl _ _) (Nat.le_refl _) _)
        have hbv : w5.heap[wr.heap.size + 1]? = some (.cells #[.pointer (some ⟨q, 0, none⟩)] 24 (0, 0)) := by
          have := World.alloc_heap_new (wr.alloc (.cells #[.int .i64 0] 3)) (.cells #[.pointer (some ⟨q, 0, none⟩)] 24)
          rw [World.size_alloc] at this
          rw [hw5]
          exact this
        have hs5 : w5.heap.size = wr.heap.size + 2 := by rw [hw5]; simp
        have HSEQ := Lib.hid (all_seqP hbv (show Own 0 w5 q pq k xs from ⟨(HP.out.own.below hbw5).que, Nat.zero_le _, fun _ _ => Nat.zero_le _⟩))
        have H5 := Lib.hid (show PlI w k q mb Mb c r pq p xs wr ∧ Below wr.heap.size wr w5 ∧ Box w5 wr.heap.size (.int .i64 0) 3 ∧ w5.heap.size = wr.heap.size + 2 from ⟨HP.out, hbw5, hnb, hs5⟩)
        have EG : ∀ args w, (callFunc 23 args).run Try.prog w = .ok (.enter 23 args) w := enters_of Try.func23 (by kernel_rfl) rfl
        clear hb1 hbw5 hnb hbv hs5 hw5 KF
        go_wp2_with fail
        refine (wpIn_wide (n := 0)).1 ?_
        apply range_lawP1 (gf := 23) (lb := #[.pointer (some ⟨wr.heap.size + 1, 0, none⟩)]) rfl EG HSEQ.out (fun _ => rfl)
          (fun hi kk W => Box W wr.heap.size (.int .i64 (kk : Nat)) 3 ∧ KeepsB wr.heap.size w5 W) (fun _ _ _ _ => False) ?hI ?hIx ?hIn ?h0 _ ?assign ?body ?done ?stop
        case assign =>
          rintro l hi kk W K _ _ hj hk hK
          have HJ := Lib.hid hj
          clear hj
          gi_wp2
          exact hK _ (Below.refl _ _) HJ.out
        case hI =>
          rintro hi kk A C row ⟨h1, h3⟩ hgr hr
          have := H5.out.2.2.2
          exact ⟨h1.own hgr hr (by omega), h3.own hgr hr (Nat.le_refl _)⟩
        case hIx => rintro c2 hi kk A C row h; exact h.elim
        case hIn =>
          rintro hi kk A C hlo hhi ⟨h1, h3⟩ hin
          have := H5.out.2.2.2
          exact ⟨(hin.block _ h1.lt (by omega)).trans h1, h3.inner hin (by omega)⟩
        case h0 =>
          intro W' hb' _
          exact ⟨H5.out.2.2.1.below hb', ⟨hb'.os, hb'.tape, hb'.output, hb'.size, fun j hj _ => hb'.block j hj⟩⟩
        case stop => exact fun D hi c2 kk W _ _ _ h _ => h.elim
        case body =>
          rintro l hi kk W hlo hhi ⟨h1, h3⟩ hk
          obtain ⟨hr5, hw5, hnb, hs5⟩ := H5.out
          have hlt5 := hr5.rest.ref.lt
          have hltM := hr5.rest.bm.lt
          have hltE := hr5.rest.be.lt
          have hr5 := hr5.on hw5
          have hbM := h3.box hr5.rest.bm (by omega)
          have hbm := (h3.block mb (by omega) (by omega)).trans hr5.rest.ref.box
          rcases hr5.rest.ref.lie with hl | ⟨g, off, hrg, hpg, hlc⟩
          · rw [hl] at hk
            cases hk
          have hltg := hlt5.2 g hrg
          have a5 : W.cell? ⟨g, off + kk, none⟩ = some (.int .i64 (gI xs kk)) := by
            have e := hlc kk hk
            have e2 : w5.heap[g]? = W.heap[g]? := (h3.block g (by omega) (by omega)).symm
            rw [← World.cell?_of_block e2]
            rw [e]
            unfold gI
            rw [List.getD_eq_getElem?_getD, List.getElem?_eq_getElem hk]
            rfl
          have cn := h1.cell
          have fn := h1.frozen
          have cM := hbM.cell
          have cm := (cell_two hbm).2.1
          rw [hpg] at cm
          obtain ⟨x, hx⟩ : ∃ x, gI xs kk = x := ⟨_, rfl⟩
          rw [hx] at a5 ⊢
          obtain ⟨n0, hn0⟩ : ∃ n0, xs.length = n0 := ⟨_, rfl⟩
          rw [hn0] at cm hk
          have hkz : (kk : Int) < (n0 : Int) := by omega
          have hd1 : decide ((kk : Int) ≥ (n0 : Int)) = false := decide_eq_false (by omega)
          have hd2 : ¬ (n0 : Int) ≤ (kk : Int) := by omega
          have hd3 : decide (n0 ≤ kk) = false := decide_eq_false (by omega)
          have hkk : ((kk : Int) != (kk : Int)) = false := by simp
          have hxx : (x != x) = false := by simp
          have hri : IntKind.i64.wrap ((kk : Int) + 1) = ((kk + 1 : Nat) : Int) := by
            have := HKL.out
            rw [IntKind.wrap_i64] <;> omega
          have HJ := Lib.hid (And.intro h1 (And.intro h3 (And.intro hnb (And.intro hs5 hlo))))
          clear h1 h3 hr5 hw5 hnb hs5 hlo hhi hlt5 hltM hltE hbM hbm hlc hltg hrg hx hn0 hk hpg
          gi_wp2_with fail
          refine region_round_quiet (by kernel_rfl) (by kernel_rfl) (by kernel_rfl) ?_
          repeat (gi_big_quiet_step (fail))
          refine wpQuietIn_nil ?_
          intro _ hw'
          obtain ⟨nq, hw''⟩ := hw'
          subst hw''
          clear a5 cM cm
          gi_wp2
          obtain ⟨h1, h3, hnb, hs5, hlo⟩ := HJ.out
          have hbq := (G.drew W nq).below
          exact ⟨(below_from hbq).trans (from_set _ _ (by omega)), (Kp.below hbq).trans (kp_set _ _ (fun h => h) (by omega)), (h1.below hbq).set _, (h3.on hbq).set _⟩
        case done =>
          rintro D hi W hD _ ⟨h1, h3⟩ hdef
          obtain ⟨hr5, hw5, hnb, hs5⟩ := H5.out
          have hlt5 := hr5.rest.ref.lt
          have hltM := hr5.rest.bm.lt
          have hltE := hr5.rest.be.lt
          have hr5 := hr5.on hw5
          have hbM := h3.box hr5.rest.bm (by omega)
          have hbm := (h3.block mb (by omega) (by omega)).trans hr5.rest.ref.box
          have hE := h3.box hr5.rest.be (by omega)
          have cn := h1.cell
          have cM := hbM.cell
          have cm := (cell_two hbm).2.1
          have cE := hE.cell
          have fE := hE.frozen
          have hwz := hr5.rest.below.size
          have hbW : Below w.heap.size w W := h3.below hr5.rest.below (by omega) hr5.rest.below.size
          have hnn : ((xs.length : Int) == (xs.length : Int)) = true := beq_self_eq_true _
          obtain ⟨W9, hW9⟩ : ∃ W9, (W.setCell ⟨w.heap.size, 0, none⟩ (.bool true)).drew = W9 := ⟨_, rfl⟩
          have hb9 : Below (W.setCell ⟨w.heap.size, 0, none⟩ (.bool true)).heap.size (W.setCell ⟨w.heap.size, 0, none⟩ (.bool true)) W9 := hW9 ▸ (G.drew _ 1).below
          have hd9 : (W.setCell ⟨w.heap.size, 0, none⟩ (.bool true)).heap[D]? = some (.deferred (some [])) := (heap_setCell_other _ ⟨w.heap.size, 0, none⟩ D _ (by
            show D ≠ w.heap.size
            omega)).trans hdef
          have HX := Lib.hid (And.intro ((hE.set (.bool true)).below hb9) (And.intro (bT' (below_set hbW (Nat.le_refl _) (.bool true)) hb9 (by simpa using hbW.size)) (And.intro ((hb9.block D (Array.getElem?_eq_some_iff.1 hd9).1).trans hd9) (show w.heap.size ≤ D ∧ D ≠ w.heap.size from ⟨by omega, by omega⟩))))
          have HW9 := Lib.hid hW9
          clear hb9 hd9 hW9
          clear h1 h3 hr5 hw5 hnb hs5 hD hlt5 hltM hbM hbm hE hwz hltE hbW hdef
          go_wp2_with fail
          go_big_region_o
          clear cn cM cm cE fE
          rw [HW9.out]
          clear HW9
          go_wp2
          refine ⟨by simp, .inl ⟨_, _, rfl, run_takeDeferred HX.out.2.2.1, ?_⟩⟩
          obtain ⟨hX1, hbe, hX3, hD1, hD2⟩ := HX.out
          have h : Box (W9.putObj D (.deferred none)) w.heap.size (.bool true) 4 := (World.putObj_heap_other (by omega)).trans hX1
          have h := h.cell
          refine ⟨.bool true, ?_, rfl, hbe.os, hbe.tape, hbe.output, by simpa using hbe.size, fun j hj => (World.putObj_heap_other (by omega)).trans (hbe.block j hj)⟩
          simp [results, Try.results4, go_sem, h]
  · have hd : decide ((ys.length : Int) > 300) = true := decide_eq_true (by omega)
    go_wp2_with fail
    refine (KA.out _).mono ?_
    rintro e w2 ⟨rfl, hb2⟩
    have hbx2 := H1.out.1.below hb2
    have c2 := hbx2.cell
    have f2 := hbx2.frozen
    have H2 := Lib.hid (And.intro (hbx2.set (.bool true)) (below_set (bT' H1.out.2 hb2 H1.out.2.size) (Nat.le_refl w.heap.size) (.bool true)))
    clear hb2 hbx2
    go_wp2
    refine ⟨.bool true, ?_, rfl, H2.out.2⟩
    have h := H2.out.1.cell
    simp [results, Try.results4, go_sem, h]
end Go.Proofs.Ytgolbeoaomgmcaa
