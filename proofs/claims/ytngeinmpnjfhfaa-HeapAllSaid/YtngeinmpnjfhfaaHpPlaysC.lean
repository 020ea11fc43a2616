/-
  The law HeapPlays over this seat's translation: every call, in every order, answers what the document says. Conditions: those that each theorem states.
-/
import Derived.Test.YtngeinmpnjfhfaaHpRef
import Derived.Deep.QuietTactic
namespace Go.Proofs.Ytngeinmpnjfhfaa
open Go.RowKit Go.Shelf Go.Lib Go.Sort Hp Go.Maps

theorem mem_sans' {L : List It} {k : Int} {x : It} (h : x ∈ sans L k) : x.1 ≠ k := by
  unfold sans at h
  have := (List.mem_filter.1 h).2
  simpa using this
/-- Between two calls: the heap holds what the list holds. -/
structure PlaysI (w : World) (hb mb n mc : Nat) (p : Option Addr) (sv : Value) (es m : List It) (i : Nat) (wr : World) : Prop where
  below : Below w.heap.size w wr
  own : Own w.heap.size wr hb sv mb es
  cnt : n = m.length
  lie : Lie wr w.heap.size p mc m
  rising : Rising m
  perm : es.Perm m
  len : n ≤ i
theorem PlaysI.on {w wr W : World} {hb mb n mc : Nat} {p : Option Addr} {sv : Value} {es m : List It} {i : Nat} (h : PlaysI w hb mb n mc p sv es m i wr) (hB : Below wr.heap.size wr W) : PlaysI w hb mb n mc p sv es m i W :=
  ⟨bT' h.below hB h.below.size, h.own.below hB, h.cnt, h.lie.below hB, h.rising, h.perm, h.len⟩
theorem PlaysI.elen {w wr : World} {hb mb n mc : Nat} {p : Option Addr} {sv : Value} {es m : List It} {i : Nat} (h : PlaysI w hb mb n mc p sv es m i wr) : es.length = n := by rw [h.cnt, h.perm.length_eq]
/-- The least of both. -/
theorem PlaysI.least {w wr : World} {hb mb n mc : Nat} {p : Option Addr} {sv : Value} {es : List It} {x : It} {m : List It} {i : Nat} (h : PlaysI w hb mb n mc p sv es (x :: m) i wr) : Hp.g es 0 = x := by
  refine least_of h.own.heap.ord (h.perm.mem_iff.2 (List.mem_cons_self ..)) fun y hy => ?_
  rcases List.mem_cons.1 (h.perm.mem_iff.1 hy) with rfl | hy
  · exact le_refl _
  · exact le_of_lt ((List.pairwise_cons.1 h.rising).1 y hy)
theorem any_get {l : List It} (hd : Dist l) (k : Int) : l.any (fun y => y.1 == k) = (getE l k).2 := by
  by_cases hc : ∃ x ∈ l, x.1 = k
  · obtain ⟨x, hx, rfl⟩ := hc
    rw [getE_in hd hx]
    exact List.any_eq_true.2 ⟨x, hx, by simp⟩
  · rw [getE_out fun x hx e => hc ⟨x, hx, e⟩]
    rw [List.any_eq_false]
    intro x hx
    simpa using fun e => hc ⟨x, hx, e⟩

set_option maxHeartbeats 64000000 in
set_option maxRecDepth 1000000 in
theorem plays_c (q : Option Addr) (cap : Nat) (ys : List Ac) (w : World) (hy : InList cA w q ys) (hyb : ∀ y ∈ ys, 0 ≤ y.1 ∧ y.1 ≤ 255 ∧ W64 y.2.1 ∧ W64 y.2.2) :
    Calls Try.prog 4 #[.slice q ys.length cap] w fun e w' => e = .returned (.bool true) ∧ Below w.heap.size w w' := by
  have mixed : Try.prog.follows .mixedOrders = true := by kernel_rfl
  have eg1 : ∀ args w, (callFunc 22 args).run Try.prog w = .ok (.enter 22 args) w := enters_of Try.func22 (by kernel_rfl) rfl
  have KPL := Lib.hid fun (x : It) (w : World) => plain_g x w
  have KA := Lib.hid fun (W : World) => awake_c W
  have HY := Lib.hid (And.intro hy hyb)
  clear hy hyb
  go_enter Try.func4, Try.ntmps4
  go_wp2_with fail
  refine (KA.out _).mono ?_
  rintro e w1 ⟨rfl, hb1⟩
  have HB1 := Lib.hid hb1
  clear hb1
  by_cases hlen : ys.length ≤ 200
  · have hd : decide ((ys.length : Int) > 200) = false := decide_eq_false (by omega)
    have KN := Lib.hid (new_o w1)
    go_wp2_with fail
    refine KN.out.mono ?_
    rintro e w2 ⟨hb2, hb, mb, sv0, rfl, hown⟩
    have H2 := Lib.hid (show PlaysI w hb mb 0 0 none sv0 [] [] 0 w2 from ⟨bT' HB1.out hb2 HB1.out.size, ⟨hown.heap, Nat.le_trans HB1.out.size hown.b1, Nat.le_trans HB1.out.size hown.b2, fun g e => Nat.le_trans HB1.out.size (hown.b3 g e)⟩, rfl, ⟨Nat.le_refl _, fun i hi => absurd hi (Nat.not_lt_zero _)⟩, .nil, .refl _, Nat.le_refl _⟩)
    clear hb2 hown KN HB1
    go_wp2
    go_loopw [4, 5] (fun mv iv wr => ∃ (i n mc : Nat) (p : Option Addr) (sv : Value) (es m : List It), iv = .int .i64 i ∧ mv = .slice p n mc ∧ i ≤ ys.length ∧ Hid (PlaysI w hb mb n mc p sv es m i wr)) (fun _ v _ => ys.length - (intOf v).toNat)
    case atStart => exact ⟨0, 0, 0, none, sv0, [], [], rfl, rfl, Nat.zero_le _, H2⟩
    case round =>
      clear H2
      obtain ⟨i, n, mc, p, sv, es, m, rfl, rfl, hi, HP⟩ := hrel
      by_cases hlt : i < ys.length
      · have hiz : (i : Int) < (ys.length : Int) := by omega
        have hp := HP.out
        obtain ⟨gl, off, rfl, hcells⟩ := (HY.out.1.below hp.below).acts (by omega)
        obtain ⟨c0, c1, c2⟩ := hcells i hlt
        have hdb := HY.out.2 ys[i] (List.getElem_mem hlt)
        obtain ⟨⟨d, xa, xb⟩, hd0⟩ : ∃ y : Ac, ys[i] = y := ⟨_, rfl⟩
        rw [hd0] at c0 c1 c2 hdb
        dsimp only at c0 c1 c2 hdb
        have hbX : Below wr.heap.size wr (wr.alloc (.cells #[.int .u8 d, .int .i64 xa, .int .i64 xb] 29)) := bA' (Below.refl _ _) (Nat.le_refl _) _
        have hX := World.alloc_heap_new wr (.cells #[.int .u8 d, .int .i64 xa, .int .i64 xb] 29)
        have HPX := Lib.hid (And.intro (hp.on hbX) (And.intro hX hdb.2.2.1))
        have hr0 : Int.tmod d 8 = d % 8 := Int.tmod_eq_emod_of_nonneg hdb.1
        have hr : ∃ r : Int, Int.tmod d 8 = r ∧ (r = 0 ∨ r = 1 ∨ r = 2 ∨ r = 3 ∨ r = 4 ∨ r = 5 ∨ r = 6 ∨ r = 7) := ⟨_, rfl, by rw [hr0]; omega⟩
        obtain ⟨r, hr1, hr2⟩ := hr
        have hw8 : IntKind.u8.wrap r = r := by rcases hr2 with rfl | rfl | rfl | rfl | rfl | rfl | rfl | rfl <;> decide
        have hri : IntKind.i64.wrap ((i : Int) + 1) = ((i + 1 : Nat) : Int) := by rw [IntKind.wrap_i64]; omega
        have HI := Lib.hid hi
        clear hd0 hcells hbX hX hp hr0 hdb
        rcases hr2 with rfl | rfl | rfl | rfl | rfl | rfl | rfl | rfl
        · have KS := set_o (k := xa) (by0 := xb) HPX.out.1.own HPX.out.1.below.size HPX.out.2.2 (by rw [HPX.out.1.elen]; have := HPX.out.1.len; omega)
          go_wp2_with fail
          refine KS.mono ?_
          rintro e w3 ⟨rfl, sv3, es3, ho, hp3, _, hl⟩
          have hx3 : w3.heap[wr.heap.size]? = some (.cells #[.int .u8 d, .int .i64 xa, .int .i64 xb] 29 (0, 0)) := by
            obtain ⟨k1, k2, k3⟩ := HPX.out.1.own.other HPX.out.2.1 (by decide) (by decide)
            exact (hl.touch.block _ (Array.getElem?_eq_some_iff.1 HPX.out.2.1).1 k1 k2 k3).trans HPX.out.2.1
          obtain ⟨x0, x1, x2, _⟩ := cell_three hx3
          have hlie := HPX.out.1.lie.left HPX.out.1.own hl
          have KR := rset_c m (xa, xb) p mc w3 (by rw [← HPX.out.1.cnt]; have := HPX.out.1.len; omega) hlie.at
          rw [← HPX.out.1.cnt] at KR
          have HK := Lib.hid (And.intro ho (And.intro hp3 (HPX.out.1.below.trans hl.below)))
          clear ho hp3 hl hx3 hlie KS c0 c1 c2
          go_wp2_with fail
          refine KR.mono ?_
          rintro e w4 ⟨ov, rfl, hrow4, hb4⟩
          obtain ⟨p4, c4, rfl, hlie4⟩ := Ents.lie (hrow4.up (B' := w.heap.size) HK.out.2.2.size)
          obtain ⟨n4, hn4⟩ : ∃ n4, (putE (sans m xa) (xa, xb)).length = n4 := ⟨_, rfl⟩
          rw [hn4]
          have HS := Lib.hid (show PlaysI w hb mb n4 c4 p4 sv3 es3 (putE (sans m xa) (xa, xb)) (i + 1) w4 from
            ⟨bT' HK.out.2.2 hb4 HK.out.2.2.size, HK.out.1.below hb4, hn4.symm, hlie4, putE_rising _ _ (sans_rising HPX.out.1.rising _) (fun y hy => mem_sans' hy), HK.out.2.1.trans (((HPX.out.1.perm.filter _).cons _).trans (putE_perm _ _).symm), by
              rw [← hn4, putE_len]
              have := sans_le m xa
              rw [← HPX.out.1.cnt] at this
              have := HPX.out.1.len
              omega⟩)
          clear hrow4 hb4 hlie4 hn4 KR x0 x1 x2
          have KL := len_c hb mb sv3 es3 _ HS.out.own.heap
          rw [HS.out.elen] at KL
          go_wp2_with fail
          refine KL.mono ?_
          rintro e wl ⟨rfl, hwl⟩
          have HS := Lib.hid (hwl ▸ HS.out)
          clear KL hwl
          go_wp2
          exact ⟨⟨i + 1, n4, c4, p4, sv3, es3, _, rfl, rfl, by omega, HS⟩, by simp [intOf]; omega⟩
        · have KS := set_o (k := xa) (by0 := xb) HPX.out.1.own HPX.out.1.below.size HPX.out.2.2 (by rw [HPX.out.1.elen]; have := HPX.out.1.len; omega)
          go_wp2_with fail
          refine KS.mono ?_
          rintro e w3 ⟨rfl, sv3, es3, ho, hp3, _, hl⟩
          have hx3 : w3.heap[wr.heap.size]? = some (.cells #[.int .u8 d, .int .i64 xa, .int .i64 xb] 29 (0, 0)) := by
            obtain ⟨k1, k2, k3⟩ := HPX.out.1.own.other HPX.out.2.1 (by decide) (by decide)
            exact (hl.touch.block _ (Array.getElem?_eq_some_iff.1 HPX.out.2.1).1 k1 k2 k3).trans HPX.out.2.1
          obtain ⟨x0, x1, x2, _⟩ := cell_three hx3
          have hlie := HPX.out.1.lie.left HPX.out.1.own hl
          have KR := rset_c m (xa, xb) p mc w3 (by rw [← HPX.out.1.cnt]; have := HPX.out.1.len; omega) hlie.at
          rw [← HPX.out.1.cnt] at KR
          have HK := Lib.hid (And.intro ho (And.intro hp3 (HPX.out.1.below.trans hl.below)))
          clear ho hp3 hl hx3 hlie KS c0 c1 c2
          go_wp2_with fail
          refine KR.mono ?_
          rintro e w4 ⟨ov, rfl, hrow4, hb4⟩
          obtain ⟨p4, c4, rfl, hlie4⟩ := Ents.lie (hrow4.up (B' := w.heap.size) HK.out.2.2.size)
          obtain ⟨n4, hn4⟩ : ∃ n4, (putE (sans m xa) (xa, xb)).length = n4 := ⟨_, rfl⟩
          rw [hn4]
          have HS := Lib.hid (show PlaysI w hb mb n4 c4 p4 sv3 es3 (putE (sans m xa) (xa, xb)) (i + 1) w4 from
            ⟨bT' HK.out.2.2 hb4 HK.out.2.2.size, HK.out.1.below hb4, hn4.symm, hlie4, putE_rising _ _ (sans_rising HPX.out.1.rising _) (fun y hy => mem_sans' hy), HK.out.2.1.trans (((HPX.out.1.perm.filter _).cons _).trans (putE_perm _ _).symm), by
              rw [← hn4, putE_len]
              have := sans_le m xa
              rw [← HPX.out.1.cnt] at this
              have := HPX.out.1.len
              omega⟩)
          clear hrow4 hb4 hlie4 hn4 KR x0 x1 x2
          have KL := len_c hb mb sv3 es3 _ HS.out.own.heap
          rw [HS.out.elen] at KL
          go_wp2_with fail
          refine KL.mono ?_
          rintro e wl ⟨rfl, hwl⟩
          have HS := Lib.hid (hwl ▸ HS.out)
          clear KL hwl
          go_wp2
          exact ⟨⟨i + 1, n4, c4, p4, sv3, es3, _, rfl, rfl, by omega, HS⟩, by simp [intOf]; omega⟩
        · have KS := set_o (k := xa) (by0 := xb) HPX.out.1.own HPX.out.1.below.size HPX.out.2.2 (by rw [HPX.out.1.elen]; have := HPX.out.1.len; omega)
          go_wp2_with fail
          refine KS.mono ?_
          rintro e w3 ⟨rfl, sv3, es3, ho, hp3, _, hl⟩
          have hx3 : w3.heap[wr.heap.size]? = some (.cells #[.int .u8 d, .int .i64 xa, .int .i64 xb] 29 (0, 0)) := by
            obtain ⟨k1, k2, k3⟩ := HPX.out.1.own.other HPX.out.2.1 (by decide) (by decide)
            exact (hl.touch.block _ (Array.getElem?_eq_some_iff.1 HPX.out.2.1).1 k1 k2 k3).trans HPX.out.2.1
          obtain ⟨x0, x1, x2, _⟩ := cell_three hx3
          have hlie := HPX.out.1.lie.left HPX.out.1.own hl
          have KR := rset_c m (xa, xb) p mc w3 (by rw [← HPX.out.1.cnt]; have := HPX.out.1.len; omega) hlie.at
          rw [← HPX.out.1.cnt] at KR
          have HK := Lib.hid (And.intro ho (And.intro hp3 (HPX.out.1.below.trans hl.below)))
          clear ho hp3 hl hx3 hlie KS c0 c1 c2
          go_wp2_with fail
          refine KR.mono ?_
          rintro e w4 ⟨ov, rfl, hrow4, hb4⟩
          obtain ⟨p4, c4, rfl, hlie4⟩ := Ents.lie (hrow4.up (B' := w.heap.size) HK.out.2.2.size)
          obtain ⟨n4, hn4⟩ : ∃ n4, (putE (sans m xa) (xa, xb)).length = n4 := ⟨_, rfl⟩
          rw [hn4]
          have HS := Lib.hid (show PlaysI w hb mb n4 c4 p4 sv3 es3 (putE (sans m xa) (xa, xb)) (i + 1) w4 from
            ⟨bT' HK.out.2.2 hb4 HK.out.2.2.size, HK.out.1.below hb4, hn4.symm, hlie4, putE_rising _ _ (sans_rising HPX.out.1.rising _) (fun y hy => mem_sans' hy), HK.out.2.1.trans (((HPX.out.1.perm.filter _).cons _).trans (putE_perm _ _).symm), by
              rw [← hn4, putE_len]
              have := sans_le m xa
              rw [← HPX.out.1.cnt] at this
              have := HPX.out.1.len
              omega⟩)
          clear hrow4 hb4 hlie4 hn4 KR x0 x1 x2
          have KL := len_c hb mb sv3 es3 _ HS.out.own.heap
          rw [HS.out.elen] at KL
          go_wp2_with fail
          refine KL.mono ?_
          rintro e wl ⟨rfl, hwl⟩
          have HS := Lib.hid (hwl ▸ HS.out)
          clear KL hwl
          go_wp2
          exact ⟨⟨i + 1, n4, c4, p4, sv3, es3, _, rfl, rfl, by omega, HS⟩, by simp [intOf]; omega⟩
        · have KS := set_o (k := xa) (by0 := xb) HPX.out.1.own HPX.out.1.below.size HPX.out.2.2 (by rw [HPX.out.1.elen]; have := HPX.out.1.len; omega)
          go_wp2_with fail
          refine KS.mono ?_
          rintro e w3 ⟨rfl, sv3, es3, ho, hp3, _, hl⟩
          have hx3 : w3.heap[wr.heap.size]? = some (.cells #[.int .u8 d, .int .i64 xa, .int .i64 xb] 29 (0, 0)) := by
            obtain ⟨k1, k2, k3⟩ := HPX.out.1.own.other HPX.out.2.1 (by decide) (by decide)
            exact (hl.touch.block _ (Array.getElem?_eq_some_iff.1 HPX.out.2.1).1 k1 k2 k3).trans HPX.out.2.1
          obtain ⟨x0, x1, x2, _⟩ := cell_three hx3
          have hlie := HPX.out.1.lie.left HPX.out.1.own hl
          have KR := rset_c m (xa, xb) p mc w3 (by rw [← HPX.out.1.cnt]; have := HPX.out.1.len; omega) hlie.at
          rw [← HPX.out.1.cnt] at KR
          have HK := Lib.hid (And.intro ho (And.intro hp3 (HPX.out.1.below.trans hl.below)))
          clear ho hp3 hl hx3 hlie KS c0 c1 c2
          go_wp2_with fail
          refine KR.mono ?_
          rintro e w4 ⟨ov, rfl, hrow4, hb4⟩
          obtain ⟨p4, c4, rfl, hlie4⟩ := Ents.lie (hrow4.up (B' := w.heap.size) HK.out.2.2.size)
          obtain ⟨n4, hn4⟩ : ∃ n4, (putE (sans m xa) (xa, xb)).length = n4 := ⟨_, rfl⟩
          rw [hn4]
          have HS := Lib.hid (show PlaysI w hb mb n4 c4 p4 sv3 es3 (putE (sans m xa) (xa, xb)) (i + 1) w4 from
            ⟨bT' HK.out.2.2 hb4 HK.out.2.2.size, HK.out.1.below hb4, hn4.symm, hlie4, putE_rising _ _ (sans_rising HPX.out.1.rising _) (fun y hy => mem_sans' hy), HK.out.2.1.trans (((HPX.out.1.perm.filter _).cons _).trans (putE_perm _ _).symm), by
              rw [← hn4, putE_len]
              have := sans_le m xa
              rw [← HPX.out.1.cnt] at this
              have := HPX.out.1.len
              omega⟩)
          clear hrow4 hb4 hlie4 hn4 KR x0 x1 x2
          have KL := len_c hb mb sv3 es3 _ HS.out.own.heap
          rw [HS.out.elen] at KL
          go_wp2_with fail
          refine KL.mono ?_
          rintro e wl ⟨rfl, hwl⟩
          have HS := Lib.hid (hwl ▸ HS.out)
          clear KL hwl
          go_wp2
          exact ⟨⟨i + 1, n4, c4, p4, sv3, es3, _, rfl, rfl, by omega, HS⟩, by simp [intOf]; omega⟩
        · have KR := rdel_c m xa p mc _ (by rw [← HPX.out.1.cnt]; have := HPX.out.1.len; omega) HPX.out.1.lie.at
          rw [← HPX.out.1.cnt, any_get (keys_perm HPX.out.1.perm HPX.out.1.own.heap.dist), ← getE_perm HPX.out.1.own.heap.dist HPX.out.1.perm] at KR
          obtain ⟨bb, hbb⟩ : ∃ bb, (getE es xa).2 = bb := ⟨_, rfl⟩
          rw [hbb] at KR
          have HBB := Lib.hid hbb
          clear hbb
          go_wp2_with fail
          refine KR.mono ?_
          rintro e w3 ⟨ov, rfl, hrow3, hb3⟩
          have HPY := Lib.hid (HPX.out.1.on hb3)
          have hx3 := (hb3.block _ (Array.getElem?_eq_some_iff.1 HPX.out.2.1).1).trans HPX.out.2.1
          obtain ⟨x0, x1, x2, _⟩ := cell_three hx3
          have KD := del_o (k := xa) HPY.out.own HPY.out.below.size HPX.out.2.2 (by rw [HPY.out.elen]; have := HPY.out.len; omega)
          rw [HBB.out] at KD
          have HR := Lib.hid (hrow3.up (B' := w.heap.size) HPX.out.1.below.size)
          clear hrow3 hb3 hx3 KR c0 c1 c2
          go_wp2_with fail
          refine KD.mono ?_
          rintro e w4 ⟨rfl, sv4, es4, ho, hp4, _, hl⟩
          have hrow4 := HR.out.left HPY.out.own hl
          obtain ⟨p4, c4, hov, hlie4⟩ := Ents.lie hrow4
          obtain ⟨n4, hn4⟩ : ∃ n4, (sans m xa).length = n4 := ⟨_, rfl⟩
          rw [hn4] at hov
          have HS := Lib.hid (show PlaysI w hb mb n4 c4 p4 sv4 es4 (sans m xa) (i + 1) w4 from
            ⟨HPY.out.below.trans hl.below, ho, hn4.symm, hlie4, sans_rising HPY.out.rising _, hp4.trans (HPY.out.perm.filter _), by
              rw [← hn4]
              have := sans_le m xa
              rw [← HPY.out.cnt] at this
              have := HPY.out.len
              omega⟩)
          subst hov
          clear ho hp4 hl hrow4 hlie4 hn4 KD x0 x1 x2
          have hbeq : (bb == bb) = true := by simp
          have KL := len_c hb mb sv4 es4 _ HS.out.own.heap
          rw [HS.out.elen] at KL
          go_wp2_with fail
          refine KL.mono ?_
          rintro e wl ⟨rfl, hwl⟩
          have HS := Lib.hid (hwl ▸ HS.out)
          clear KL hwl
          go_wp2
          exact ⟨⟨i + 1, n4, c4, p4, sv4, es4, _, rfl, rfl, by omega, HS⟩, by simp [intOf]; omega⟩
        · have KG := get_c hb mb xa sv es _ HPX.out.1.own.heap HPX.out.2.2
          obtain ⟨⟨r1, r2⟩, hrr⟩ : ∃ r, getE es xa = r := ⟨_, rfl⟩
          have HRR := Lib.hid (show getE m xa = (r1, r2) from by rw [← getE_perm HPX.out.1.own.heap.dist HPX.out.1.perm, hrr])
          rw [hrr] at KG
          dsimp only at KG
          clear hrr
          go_wp2_with fail
          refine KG.mono ?_
          rintro e w3 ⟨rfl, hb3⟩
          have HPY := Lib.hid (HPX.out.1.on hb3)
          have hx3 := (hb3.block _ (Array.getElem?_eq_some_iff.1 HPX.out.2.1).1).trans HPX.out.2.1
          obtain ⟨x0, x1, x2, _⟩ := cell_three hx3
          have KR := rget_c m xa p mc w3 HPY.out.lie.at (by rw [← HPY.out.cnt]; have := HPY.out.len; omega)
          rw [HRR.out, ← HPY.out.cnt] at KR
          dsimp only at KR
          clear hb3 hx3 KG c0 c1 c2
          go_wp2_with fail
          refine KR.mono ?_
          rintro e w4 ⟨rfl, rfl⟩
          have hbeq : (r2 == r2) = true := by simp
          have hbeq2 : (r1 == r1) = true := by simp
          have HS := Lib.hid (show PlaysI w hb mb n mc p sv es m (i + 1) w3 from ⟨HPY.out.below, HPY.out.own, HPY.out.cnt, HPY.out.lie, HPY.out.rising, HPY.out.perm, by have := HPY.out.len; omega⟩)
          clear KR x0 x1 x2
          have KL := len_c hb mb sv es _ HS.out.own.heap
          rw [HS.out.elen] at KL
          go_wp2_with fail
          refine KL.mono ?_
          rintro e wl ⟨rfl, hwl⟩
          have HS := Lib.hid (hwl ▸ HS.out)
          clear KL hwl
          go_wp2
          exact ⟨⟨i + 1, n, mc, p, sv, es, _, rfl, rfl, by omega, HS⟩, by simp [intOf]; omega⟩
        · rcases m with _ | ⟨x, m'⟩
          · obtain rfl : n = 0 := HPX.out.1.cnt
            obtain rfl : es = [] := List.eq_nil_of_length_eq_zero HPX.out.1.elen
            have KP := pop_o HPX.out.1.own HPX.out.1.below.size (by rw [HPX.out.1.elen]; have := HPX.out.1.len; omega)
            rw [show Hp.g [] 0 = (0, 0) from rfl, show decide (0 < ([] : List It).length) = false from rfl] at KP
            dsimp only at KP
            go_wp2_with fail
            refine KP.mono ?_
            rintro e w3 ⟨rfl, sv3, es3, ho, ht, _, hl⟩
            obtain rfl : es3 = [] := by simpa [Tail] using ht
            have hbw := HPX.out.1.below.trans hl.below
            have hb4 := bA' (Below.refl w3.heap.size w3) (Nat.le_refl _) (.cells #[.int .i64 0, .int .i64 0] 33)
            have HO := Lib.hid (And.intro ho (And.intro hbw hb4))
            have KP2 := KPL.out (0, 0) (w3.alloc (.cells #[.int .i64 0, .int .i64 0] 33))
            dsimp only at KP2
            clear ho ht hl hbw hb4 KP c0 c1 c2
            go_wp2_with fail
            refine KP2.mono ?_
            rintro e w4 ⟨rfl, hG⟩
            have hb5 := bT2 HO.out.2.2 (G.below hG)
            have HS := Lib.hid (show PlaysI w hb mb 0 mc p sv3 [] [] (i + 1) w4 from ⟨bT' HO.out.2.1 hb5 HO.out.2.1.size, HO.out.1.below hb5, rfl, ⟨Nat.zero_le _, fun i hi => absurd hi (Nat.not_lt_zero _)⟩, .nil, .refl _, Nat.zero_le _⟩)
            clear hG hb5 KP2
            have KL := len_c hb mb sv3 [] _ HS.out.own.heap
            rw [HS.out.elen] at KL
            go_wp2_with fail
            refine KL.mono ?_
            rintro e wl ⟨rfl, hwl⟩
            have HS := Lib.hid (hwl ▸ HS.out)
            clear KL hwl
            go_wp2
            exact ⟨⟨i + 1, 0, mc, p, sv3, [], [], rfl, rfl, by omega, HS⟩, by simp [intOf]; omega⟩
          · have hn1 : n = m'.length + 1 := HPX.out.1.cnt
            have hnp : (n : Int) > 0 := by omega
            have hnp2 : 0 < n := by omega
            have hd5 : decide ((n : Int) > 0) = true := decide_eq_true hnp
            have hd6 : decide (0 < n) = true := decide_eq_true hnp2
            have hz0 : (0 : Int) < (n : Int) := by omega
            have KP := pop_o HPX.out.1.own HPX.out.1.below.size (by rw [HPX.out.1.elen]; have := HPX.out.1.len; omega)
            rw [HPX.out.1.least, decide_eq_true (show 0 < es.length by rw [HPX.out.1.elen]; omega)] at KP
            have HN1 := Lib.hid hn1
            clear hn1
            go_wp2_with fail
            refine KP.mono ?_
            rintro e w3 ⟨rfl, sv3, es3, ho, ht, _, hl⟩
            have hbw := HPX.out.1.below.trans hl.below
            have hlie3 := HPX.out.1.lie.left HPX.out.1.own hl
            have hperm : es3.Perm m' := by
              unfold Tail at ht
              rw [if_pos (by rw [HPX.out.1.elen]; omega), HPX.out.1.least] at ht
              exact (ht.symm.trans HPX.out.1.perm).cons_inv
            have hb4 := bA' (Below.refl w3.heap.size w3) (Nat.le_refl _) (.cells #[.int .i64 x.1, .int .i64 x.2] 33)
            have hlie4 := hlie3.below hb4
            obtain ⟨g, off2, cur, fr, hpe, _, _, a0, a1⟩ := hlie4.2 0 (by simp)
            simp only [Nat.zero_mul, Nat.add_zero, List.getElem_cons_zero] at a0 a1
            have HLI := Lib.hid hlie4
            have e0 : (w3.alloc (.cells #[.int .i64 x.1, .int .i64 x.2] 33)).cell? ⟨w3.heap.size, 0, none⟩ = some (.int .i64 x.1) := by go_simp
            have e1 : (w3.alloc (.cells #[.int .i64 x.1, .int .i64 x.2] 33)).cell? ⟨w3.heap.size, 1, none⟩ = some (.int .i64 x.2) := by go_simp
            have g0 := cg a0
            have g1 := cg a1
            have g2 := cg e0
            have g3 := cg e1
            have hmc : n ≤ mc := by have := hlie4.1; rw [List.length_cons, ← HN1.out] at this; exact this
            have HO := Lib.hid (And.intro ho (And.intro hbw hb4))
            have HPM := Lib.hid hperm
            clear hperm
            clear ho ht hl hbw hb4 hlie3 hlie4 a0 a1 e0 e1 KP c0 c1 c2
            subst hpe
            go_wp2_with fail
            go_quiet_grown (first | (go_at_fn 22; exact Calls.grown_of (KPL.out x _)))
            have hG : G (w3.alloc (.cells #[.int .i64 x.1, .int .i64 x.2] 33)) (grow ((w3.alloc (.cells #[.int .i64 x.1, .int .i64 x.2] 33)).drewN nq) osq) := ⟨nq, osq, rfl⟩
            have hb5 := bT2 HO.out.2.2 hG.below
            have HLI := Lib.hid (HLI.out.below hG.below)
            generalize grow ((w3.alloc (.cells #[.int .i64 x.1, .int .i64 x.2] 33)).drewN nq) osq = w4 at *
            have HT := Lib.hid (HLI.out.tail g off2 rfl)
            have HS := Lib.hid (show PlaysI w hb mb (n - 1) (mc - 1) (if mc = 1 then some ⟨g, off2, none⟩ else some ⟨g, off2 + 2, none⟩) sv3 es3 m' (i + 1) w4 from
              ⟨bT' HO.out.2.1 hb5 HO.out.2.1.size, HO.out.1.below hb5, by have := HN1.out; omega, HT.out, (List.pairwise_cons.1 HPX.out.1.rising).2, HPM.out, by have := HPX.out.1.len; omega⟩)
            clear hG hb5 g0 g1 g2 g3
            have h1n : (1 : Int) ≤ (n : Int) := by omega
            have h1m : (1 : Int) ≤ (mc : Int) := by omega
            have h1n2 : 1 ≤ n := by omega
            have h1m2 : 1 ≤ mc := by omega
            by_cases hm1 : mc = 1
            · have HS := Lib.hid (show PlaysI w hb mb (n - 1) 0 (some ⟨g, off2, none⟩) sv3 es3 m' (i + 1) w4 from by have h := HS.out; rw [if_pos hm1, hm1] at h; exact h)
              have KL := len_c hb mb sv3 es3 _ HS.out.own.heap
              rw [HS.out.elen] at KL
              go_wp2_with fail
              refine KL.mono ?_
              rintro e wl ⟨rfl, hwl⟩
              have HS := Lib.hid (hwl ▸ HS.out)
              clear KL hwl
              go_wp2
              exact ⟨⟨i + 1, n - 1, 0, _, sv3, es3, _, rfl, rfl, by omega, HS⟩, by simp [intOf]; omega⟩
            · have hm2 : decide (mc = 1) = false := decide_eq_false hm1
              have HS := Lib.hid (show PlaysI w hb mb (n - 1) (mc - 1) (some ⟨g, off2 + 2, none⟩) sv3 es3 m' (i + 1) w4 from by have h := HS.out; rw [if_neg hm1] at h; exact h)
              have KL := len_c hb mb sv3 es3 _ HS.out.own.heap
              rw [HS.out.elen] at KL
              go_wp2_with fail
              refine KL.mono ?_
              rintro e wl ⟨rfl, hwl⟩
              have HS := Lib.hid (hwl ▸ HS.out)
              clear KL hwl
              go_wp2
              exact ⟨⟨i + 1, n - 1, mc - 1, _, sv3, es3, _, rfl, rfl, by omega, HS⟩, by simp [intOf]; omega⟩
        · rcases m with _ | ⟨x, m'⟩
          · obtain rfl : n = 0 := HPX.out.1.cnt
            obtain rfl : es = [] := List.eq_nil_of_length_eq_zero HPX.out.1.elen
            have KP := min_c hb mb sv _ _ HPX.out.1.own.heap
            rw [show Hp.g [] 0 = (0, 0) from rfl, show decide (0 < ([] : List It).length) = false from rfl] at KP
            dsimp only at KP
            go_wp2_with fail
            refine KP.mono ?_
            rintro e w3 ⟨rfl, hb3⟩
            have ho := HPX.out.1.own.below hb3
            have hbw := bT' HPX.out.1.below hb3 HPX.out.1.below.size
            have hb4 := bA' (Below.refl w3.heap.size w3) (Nat.le_refl _) (.cells #[.int .i64 0, .int .i64 0] 33)
            have HO := Lib.hid (And.intro ho (And.intro hbw hb4))
            have KP2 := KPL.out (0, 0) (w3.alloc (.cells #[.int .i64 0, .int .i64 0] 33))
            dsimp only at KP2
            clear ho hb3 hbw hb4 KP c0 c1 c2
            go_wp2_with fail
            refine KP2.mono ?_
            rintro e w4 ⟨rfl, hG⟩
            have hb5 := bT2 HO.out.2.2 (G.below hG)
            have HS := Lib.hid (show PlaysI w hb mb 0 mc p sv [] [] (i + 1) w4 from ⟨bT' HO.out.2.1 hb5 HO.out.2.1.size, HO.out.1.below hb5, rfl, ⟨Nat.zero_le _, fun i hi => absurd hi (Nat.not_lt_zero _)⟩, .nil, .refl _, Nat.zero_le _⟩)
            clear hG hb5 KP2
            have KL := len_c hb mb sv [] _ HS.out.own.heap
            rw [HS.out.elen] at KL
            go_wp2_with fail
            refine KL.mono ?_
            rintro e wl ⟨rfl, hwl⟩
            have HS := Lib.hid (hwl ▸ HS.out)
            clear KL hwl
            go_wp2
            exact ⟨⟨i + 1, 0, mc, p, sv, [], [], rfl, rfl, by omega, HS⟩, by simp [intOf]; omega⟩
          · have hn1 : n = m'.length + 1 := HPX.out.1.cnt
            have hnp : (n : Int) > 0 := by omega
            have hnp2 : 0 < n := by omega
            have hd5 : decide ((n : Int) > 0) = true := decide_eq_true hnp
            have hd6 : decide (0 < n) = true := decide_eq_true hnp2
            have hz0 : (0 : Int) < (n : Int) := by omega
            have KP := min_c hb mb sv _ _ HPX.out.1.own.heap
            rw [HPX.out.1.least, decide_eq_true (show 0 < es.length by rw [HPX.out.1.elen]; omega)] at KP
            have HN1 := Lib.hid hn1
            clear hn1
            go_wp2_with fail
            refine KP.mono ?_
            rintro e w3 ⟨rfl, hb3⟩
            have ho := HPX.out.1.own.below hb3
            have hbw := bT' HPX.out.1.below hb3 HPX.out.1.below.size
            have hlie3 := HPX.out.1.lie.below hb3
            have hb4 := bA' (Below.refl w3.heap.size w3) (Nat.le_refl _) (.cells #[.int .i64 x.1, .int .i64 x.2] 33)
            have hlie4 := hlie3.below hb4
            obtain ⟨g, off2, cur, fr, hpe, _, _, a0, a1⟩ := hlie4.2 0 (by simp)
            simp only [Nat.zero_mul, Nat.add_zero, List.getElem_cons_zero] at a0 a1
            have HLI := Lib.hid hlie4
            have e0 : (w3.alloc (.cells #[.int .i64 x.1, .int .i64 x.2] 33)).cell? ⟨w3.heap.size, 0, none⟩ = some (.int .i64 x.1) := by go_simp
            have e1 : (w3.alloc (.cells #[.int .i64 x.1, .int .i64 x.2] 33)).cell? ⟨w3.heap.size, 1, none⟩ = some (.int .i64 x.2) := by go_simp
            have g0 := cg a0
            have g1 := cg a1
            have g2 := cg e0
            have g3 := cg e1
            have hmc : n ≤ mc := by have := hlie4.1; rw [List.length_cons, ← HN1.out] at this; exact this
            have HO := Lib.hid (And.intro ho (And.intro hbw hb4))
            clear ho hb3 hbw hb4 hlie3 hlie4 a0 a1 e0 e1 KP c0 c1 c2
            subst hpe
            go_wp2_with fail
            go_quiet_grown (first | (go_at_fn 22; exact Calls.grown_of (KPL.out x _)))
            have hG : G (w3.alloc (.cells #[.int .i64 x.1, .int .i64 x.2] 33)) (grow ((w3.alloc (.cells #[.int .i64 x.1, .int .i64 x.2] 33)).drewN nq) osq) := ⟨nq, osq, rfl⟩
            have hb5 := bT2 HO.out.2.2 hG.below
            have HLI := Lib.hid (HLI.out.below hG.below)
            generalize grow ((w3.alloc (.cells #[.int .i64 x.1, .int .i64 x.2] 33)).drewN nq) osq = w4 at *
            have HS := Lib.hid (show PlaysI w hb mb n mc (some ⟨g, off2, none⟩) sv es (x :: m') (i + 1) w4 from
              ⟨bT' HO.out.2.1 hb5 HO.out.2.1.size, HO.out.1.below hb5, HPX.out.1.cnt, HLI.out, HPX.out.1.rising, HPX.out.1.perm, by have := HPX.out.1.len; omega⟩)
            clear hG hb5 g0 g1 g2 g3
            have KL := len_c hb mb sv es _ HS.out.own.heap
            rw [HS.out.elen] at KL
            go_wp2_with fail
            refine KL.mono ?_
            rintro e wl ⟨rfl, hwl⟩
            have HS := Lib.hid (hwl ▸ HS.out)
            clear KL hwl
            go_wp2
            exact ⟨⟨i + 1, n, mc, _, sv, es, _, rfl, rfl, by omega, HS⟩, by simp [intOf]; omega⟩
      · obtain rfl : i = ys.length := by omega
        have HB := Lib.hid HP.out.below
        go_wp2
        go_ret
        exact ⟨rfl, HB.out⟩
  · have hd : decide ((ys.length : Int) > 200) = true := decide_eq_true (by omega)
    go_wp2_with fail
    refine (KA.out _).mono ?_
    rintro e w2 ⟨rfl, hb2⟩
    have HB2 := Lib.hid (bT' HB1.out hb2 HB1.out.size)
    clear hb2
    go_wp2
    go_ret
    exact ⟨rfl, HB2.out⟩
end Go.Proofs.Ytngeinmpnjfhfaa
