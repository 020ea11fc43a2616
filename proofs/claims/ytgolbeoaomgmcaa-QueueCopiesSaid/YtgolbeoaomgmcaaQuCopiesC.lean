/-
  The law QueueCopies over this seat's translation: what is done to a copy the queue does not see, and the other way. Conditions: those that each theorem states.
-/
import Derived.Test.YtgolbeoaomgmcaaQuStep
namespace Go.Proofs.Ytgolbeoaomgmcaa
open Go.RowKit Go.Shelf Go.Lib Go.Sort Qu

/-- A queue that is left alone, a queue that is called, a row of numbers. -/
structure Two (w wr : World) (k q c : Nat) (p pc : Option Addr) (xs ys zs : List Int) (v : Value) : Prop where
  below : Below w.heap.size w wr
  oq : Own w.heap.size wr q p k xs
  oc : Own w.heap.size wr c pc k ys
  ne : q ≠ c
  ap : ∀ g, blk p = some g → blk pc ≠ some g
  row : IntsR wr v zs
  far : ∀ g, v.ownBlock = some g → blk pc ≠ some g
theorem Two.on {w wr W : World} {k q c : Nat} {p pc : Option Addr} {xs ys zs : List Int} {v : Value} (h : Two w wr k q c p pc xs ys zs v) (hb : Below wr.heap.size wr W) : Two w W k q c p pc xs ys zs v :=
  ⟨bT' h.below hb h.below.size, h.oq.below hb, h.oc.below hb, h.ne, h.ap, h.row.below hb, h.far⟩
theorem Two.step {w wr W : World} {k q c : Nat} {p pc pc' : Option Addr} {xs ys ys' zs : List Int} {v : Value} (h : Two w wr k q c p pc xs ys zs v) (ho : Own w.heap.size W c pc' k ys') (ht : Touch c (blk pc) wr W) (hn : New pc pc' wr) (hb : Below w.heap.size wr W) : Two w W k q c p pc' xs ys' zs v := by
  refine ⟨h.below.trans hb, h.oq.apart h.oc ht h.ne h.ap, ho, h.ne, fun g e e2 => ?_, ?_, fun g e e2 => ?_⟩
  · rcases hn with rfl | hn
    · exact h.ap g e e2
    · have := hn g e2
      have := h.oq.lt.2 g e
      omega
  · refine ownsRow_keep h.row fun g e => ht.block g (h.row.lt g e).2 ?_ (fun e2 => h.far g e e2.symm)
    rintro rfl
    obtain ⟨cur, hc⟩ := ownsRow_cells h.row e
    obtain ⟨R, f, hq⟩ := h.oc.que
    have := hc.symm.trans hq.box
    simp at this
  · rcases hn with rfl | hn
    · exact h.far g e e2
    · have := hn g e2
      have := (h.row.lt g e).2
      omega
/-- Now the other one is called. -/
theorem Two.turn {w wr W : World} {k q c : Nat} {p pc : Option Addr} {xs ys zs : List Int} {v v' : Value} (h : Two w wr k q c p pc xs ys zs v) (hb : Below wr.heap.size wr W) (hv : W.ownsRow wr.heap.size 3 1 v' ys.length (ys.map fun x => Value.int .i64 x)) : Two w W k c q pc p ys xs ys v' := by
  refine ⟨bT' h.below hb h.below.size, h.oc.below hb, h.oq.below hb, Ne.symm h.ne, fun g e e2 => h.ap g e2 e, ⟨hv.1, hv.2.imp id fun ⟨g, cap, cur, e, _, rest⟩ => ⟨g, cap, cur, e, Nat.zero_le _, rest⟩⟩, fun g e e2 => ?_⟩
  have := (hv.lt g e).1
  have := h.oq.lt.2 g e2
  omega
theorem IntsR.of {W : World} {B : Nat} {v : Value} {m : List Int} (h : W.ownsRow B 3 1 v m.length (m.map fun x => Value.int .i64 x)) : IntsR W v m :=
  ⟨h.1, h.2.imp id fun ⟨g, cap, cur, e, _, rest⟩ => ⟨g, cap, cur, e, Nat.zero_le _, rest⟩⟩
set_option maxHeartbeats 32000000 in
set_option maxRecDepth 1000000 in
theorem copies_c (room : Nat) (q1 q2 : Option Addr) (cap1 cap2 : Nat) (ys1 ys2 : List Ac) (w : World) (hy1 : InList cA w q1 ys1) (hy2 : InList cA w q2 ys2) (hu1 : ∀ y ∈ ys1, 0 ≤ y.1 ∧ y.1 ≤ 255 ∧ W64 y.2) (hu2 : ∀ y ∈ ys2, 0 ≤ y.1 ∧ y.1 ≤ 255 ∧ W64 y.2) (hroom : room ≤ 255) :
    Calls Try.prog 6 #[.int .u8 room, .slice q1 ys1.length cap1, .slice q2 ys2.length cap2] w fun e w' => e = .returned (.bool true) ∧ Below w.heap.size w w' := by
  have KA := Lib.hid fun (W : World) => awake_c W
  have HY1 := Lib.hid (And.intro hy1 hu1)
  have HY2 := Lib.hid (And.intro hy2 hu2)
  clear hy1 hy2 hu1 hu2
  go_enter Try.func6, Try.ntmps6
  go_wp2_with fail
  refine (KA.out _).mono ?_
  rintro e w1 ⟨rfl, hb1⟩
  have HB1 := Lib.hid hb1
  clear hb1
  by_cases hlen : ys1.length ≤ 300 ∧ ys2.length ≤ 300
  · have hd1 : decide ((ys1.length : Int) > 300) = false := decide_eq_false (by omega)
    have hd2 : decide ((ys2.length : Int) > 300) = false := decide_eq_false (by omega)
    obtain ⟨rr, hrr⟩ : ∃ rr : Nat, room % 9 = rr := ⟨_, rfl⟩
    have hr1 : Int.tmod (room : Int) 9 = (rr : Int) := by rw [Int.tmod_eq_emod_of_nonneg (by omega)]; omega
    have hw8 : IntKind.u8.wrap (rr : Int) = (rr : Int) := by
      have : rr = 0 ∨ rr = 1 ∨ rr = 2 ∨ rr = 3 ∨ rr = 4 ∨ rr = 5 ∨ rr = 6 ∨ rr = 7 ∨ rr = 8 := by omega
      rcases this with h | h | h | h | h | h | h | h | h <;> (rw [h]; decide)
    have hw64 : IntKind.i64.wrap (rr : Int) = (rr : Int) := by rw [IntKind.wrap_i64] <;> omega
    have hw1 : IntKind.i64.wrap (1 + (rr : Int)) = ((1 + rr : Nat) : Int) := by rw [IntKind.wrap_i64] <;> omega
    have KN := Lib.hid (new_o ((1 + rr : Nat) : Int) (by omega) w1)
    have HL := Lib.hid (show rr ≤ 8 from by omega)
    clear hrr
    go_wp2_with fail
    refine KN.out.mono ?_
    rintro e w2 ⟨q, rfl, hown, hb2⟩
    have hbw2 := bT' HB1.out hb2 HB1.out.size
    have H2 := Lib.hid (show Below w.heap.size w w2 ∧ Own w.heap.size w2 q none (1 + rr) [] from ⟨hbw2, by have := hown.que; rwa [Int.toNat_natCast] at this, Nat.le_trans HB1.out.size hown.b1, fun g e => by cases e⟩)
    have hrr8 := HL.out
    clear hb2 hbw2 hown KN HB1 hr1 hw8 hw64 hw1
    go_wp2
    go_loopw [9] (fun iv wr => ∃ (i : Nat) (p : Option Addr) (xs : List Int), iv = .int .i64 i ∧ i ≤ ys1.length ∧ Hid (Below w.heap.size w wr ∧ Own w.heap.size wr q p (1 + rr) xs)) (fun v _ => ys1.length - (intOf v).toNat)
    case atStart => exact ⟨0, none, [], rfl, Nat.zero_le _, H2⟩
    case round =>
      clear H2
      obtain ⟨i, p, xs, rfl, hi, HP⟩ := hrel
      by_cases hlt : i < ys1.length
      · have hiz : (i : Int) < (ys1.length : Int) := by omega
        have hp := HP.out
        obtain ⟨gl, off, hqa, hcells⟩ := (HY1.out.1.below hp.1).acts (by omega)
        subst hqa
        obtain ⟨c0, c1⟩ := hcells i hlt
        have hdb := HY1.out.2 ys1[i] (List.getElem_mem hlt)
        obtain ⟨⟨d, xa⟩, hd0⟩ : ∃ y : Ac, ys1[i] = y := ⟨_, rfl⟩
        rw [hd0] at c0 c1 hdb
        have KD := step_o (d, xa) hp.2 hp.1.size hdb
        dsimp only at c0 c1 KD
        have hri : IntKind.i64.wrap ((i : Int) + 1) = ((i + 1 : Nat) : Int) := by rw [IntKind.wrap_i64]; omega
        clear hd0 hcells hp hdb
        go_wp2_with fail
        refine KD.mono ?_
        rintro e w5 ⟨rfl, p5, xs5, ho, _, _, hb⟩
        have HS := Lib.hid (And.intro (HP.out.1.trans hb) ho)
        clear ho hb KD
        go_wp2
        exact ⟨⟨i + 1, p5, xs5, rfl, by omega, HS⟩, by simp [intOf]; omega⟩
      · obtain rfl : i = ys1.length := by omega
        have KC := copy_o HP.out.2 HP.out.1.size
        have H3 := Lib.hid HP.out
        go_wp2_with fail
        refine KC.mono ?_
        rintro e w3 ⟨c, gc, rfl, hoc, hc1, hg1, hb3⟩
        have hoq := H3.out.2.below hb3
        have hlq := H3.out.2.lt
        have KI := items_c (show Own 0 w3 q p (1 + rr) xs from ⟨hoq.que, Nat.zero_le _, fun _ _ => Nat.zero_le _⟩) (by have := hoq.box; omega)
        have H3 := Lib.hid (And.intro (bT' H3.out.1 hb3 H3.out.1.size) (And.intro hoq (And.intro hoc (And.intro (show q ≠ c by have := hlq.1; omega) (show ∀ g, blk p = some g → blk (some ⟨gc, 0, none⟩) ≠ some g from fun g e e2 => by
          have := hlq.2 g e
          simp [blk] at e2
          omega)))))
        clear hoq hlq hoc hc1 hg1 hb3 KC
        go_wp2_with fail
        refine KI.mono ?_
        rintro e w4 ⟨v, rfl, hv, hb4⟩
        obtain ⟨hb, hoq, hoc, hne, hap⟩ := H3.out
        have HT4 := Lib.hid (show Two w w4 (1 + rr) q c p (some ⟨gc, 0, none⟩) xs xs xs v from ⟨bT' hb hb4 hb.size, hoq.below hb4, hoc.below hb4, hne, hap, IntsR.of hv, fun g e e2 => by
          have := (hv.lt g e).1
          have := hoc.lt.2 g e2
          omega⟩)
        clear hb hoq hoc hne hap hv hb4 KI H3
        go_wp2
        go_loopw [12] (fun iv wr => ∃ (i : Nat) (p' : Option Addr) (xs' : List Int), iv = .int .i64 i ∧ i ≤ ys2.length ∧ Hid (Two w wr (1 + rr) q c p p' xs xs' xs v)) (fun v _ => ys2.length - (intOf v).toNat)
        case atStart => exact ⟨0, some ⟨gc, 0, none⟩, xs, rfl, Nat.zero_le _, HT4⟩
        case round =>
          clear HT4
          obtain ⟨i, p', xs', rfl, hi, HP⟩ := hrel
          by_cases hlt : i < ys2.length
          · have hiz : (i : Int) < (ys2.length : Int) := by omega
            have hp := HP.out
            obtain ⟨gl, off, hqa, hcells⟩ := (HY2.out.1.below hp.below).acts (by omega)
            subst hqa
            obtain ⟨c0, c1⟩ := hcells i hlt
            have hdb := HY2.out.2 ys2[i] (List.getElem_mem hlt)
            obtain ⟨⟨d, xa⟩, hd0⟩ : ∃ y : Ac, ys2[i] = y := ⟨_, rfl⟩
            rw [hd0] at c0 c1 hdb
            have KD := step_o (d, xa) hp.oc hp.below.size hdb
            dsimp only at c0 c1 KD
            have hri : IntKind.i64.wrap ((i : Int) + 1) = ((i + 1 : Nat) : Int) := by rw [IntKind.wrap_i64]; omega
            clear hd0 hcells hp hdb
            go_wp2_with fail
            refine KD.mono ?_
            rintro e w5 ⟨rfl, p5, xs5, ho, ht, hn, hb⟩
            have HS := Lib.hid (HP.out.step ho ht hn hb)
            clear ho ht hn hb KD
            go_wp2
            exact ⟨⟨i + 1, p5, xs5, rfl, by omega, HS⟩, by simp [intOf]; omega⟩
          · obtain rfl : i = ys2.length := by omega
            have KI2 := items_c (show Own 0 wr q p (1 + rr) xs from ⟨HP.out.oq.que, Nat.zero_le _, fun _ _ => Nat.zero_le _⟩) (by have := HP.out.oq.box; omega)
            have HT5 := Lib.hid HP.out
            go_wp2_with fail
            refine KI2.mono ?_
            rintro e w6 ⟨v2, rfl, hv2, hb6⟩
            have hT6 := HT5.out.on hb6
            have KAL := alike_c v2 v xs w6 (IntsR.of hv2) hT6.row (by have := hT6.oq.box; omega)
            have HT6 := Lib.hid hT6
            clear hv2 hb6 hT6 KI2 HT5
            go_wp2_with fail
            refine KAL.mono ?_
            rintro e w7 ⟨rfl, hb7⟩
            have HT7 := Lib.hid (HT6.out.on hb7)
            clear hb7 KAL HT6
            obtain ⟨ys3, hys3⟩ : ∃ ys3, xs' = ys3 := ⟨_, rfl⟩
            subst hys3
            have KI3 := items_c (show Own 0 w7 c p' (1 + rr) xs' from ⟨HT7.out.oc.que, Nat.zero_le _, fun _ _ => Nat.zero_le _⟩) (by have := HT7.out.oc.box; omega)
            go_wp2_with fail
            refine KI3.mono ?_
            rintro e w8 ⟨v3, rfl, hv3, hb8⟩
            obtain ⟨ys3, hys3⟩ : ∃ ys3, xs' = ys3 := ⟨_, rfl⟩
            obtain ⟨pc, hpc⟩ : ∃ pc, p' = pc := ⟨_, rfl⟩
            rw [hys3] at hv3 HT7
            rw [hpc] at HT7
            have HT8 := Lib.hid (HT7.out.turn hb8 hv3)
            clear hv3 hb8 KI3 HT7
            go_wp2
            go_loopw [14] (fun iv wr => ∃ (i : Nat) (p' : Option Addr) (xs' : List Int), iv = .int .i64 i ∧ i ≤ ys1.length ∧ Hid (Two w wr (1 + rr) c q pc p' ys3 xs' ys3 v3)) (fun v _ => ys1.length - (intOf v).toNat)
            case atStart => exact ⟨0, p, xs, rfl, Nat.zero_le _, HT8⟩
            case round =>
              clear HT8
              obtain ⟨i, p', xs', rfl, hi, HP⟩ := hrel
              by_cases hlt : i < ys1.length
              · have hiz : (i : Int) < (ys1.length : Int) := by omega
                have hp := HP.out
                obtain ⟨gl, off, hqa, hcells⟩ := (HY1.out.1.below hp.below).acts (by omega)
                subst hqa
                obtain ⟨c0, c1⟩ := hcells i hlt
                have hdb := HY1.out.2 ys1[i] (List.getElem_mem hlt)
                obtain ⟨⟨d, xa⟩, hd0⟩ : ∃ y : Ac, ys1[i] = y := ⟨_, rfl⟩
                rw [hd0] at c0 c1 hdb
                have KD := step_o (d, xa) hp.oc hp.below.size hdb
                dsimp only at c0 c1 KD
                have hri : IntKind.i64.wrap ((i : Int) + 1) = ((i + 1 : Nat) : Int) := by rw [IntKind.wrap_i64]; omega
                clear hd0 hcells hp hdb
                go_wp2_with fail
                refine KD.mono ?_
                rintro e w5 ⟨rfl, p5, xs5, ho, ht, hn, hb⟩
                have HS := Lib.hid (HP.out.step ho ht hn hb)
                clear ho ht hn hb KD
                go_wp2
                exact ⟨⟨i + 1, p5, xs5, rfl, by omega, HS⟩, by simp [intOf]; omega⟩
              · obtain rfl : i = ys1.length := by omega
                have KI4 := items_c (show Own 0 wr c pc (1 + rr) ys3 from ⟨HP.out.oq.que, Nat.zero_le _, fun _ _ => Nat.zero_le _⟩) (by have := HP.out.oq.box; omega)
                have HT9 := Lib.hid HP.out
                go_wp2_with fail
                refine KI4.mono ?_
                rintro e w10 ⟨v4, rfl, hv4, hb10⟩
                have hT10 := HT9.out.on hb10
                have KAL := alike_c v4 v3 ys3 w10 (IntsR.of hv4) hT10.row (by have := hT10.oq.box; omega)
                have HT10 := Lib.hid hT10
                clear hv4 hb10 hT10 KI4
                go_wp2_with fail
                refine KAL.mono ?_
                rintro e w11 ⟨rfl, hb11⟩
                have HB := Lib.hid (bT' HT10.out.below hb11 HT10.out.below.size)
                clear hb11 KAL
                go_wp2
                go_ret
                exact ⟨rfl, HB.out⟩
  · by_cases h1 : ys1.length ≤ 300
    · have hd1 : decide ((ys1.length : Int) > 300) = false := decide_eq_false (by omega)
      have hd2 : decide ((ys2.length : Int) > 300) = true := decide_eq_true (by omega)
      go_wp2_with fail
      refine (KA.out _).mono ?_
      rintro e w2 ⟨rfl, hb2⟩
      have HB2 := Lib.hid (bT' HB1.out hb2 HB1.out.size)
      clear hb2
      go_wp2
      go_ret
      exact ⟨rfl, HB2.out⟩
    · have hd1 : decide ((ys1.length : Int) > 300) = true := decide_eq_true (by omega)
      go_wp2_with fail
      refine (KA.out _).mono ?_
      rintro e w2 ⟨rfl, hb2⟩
      have HB2 := Lib.hid (bT' HB1.out hb2 HB1.out.size)
      clear hb2
      go_wp2
      go_ret
      exact ⟨rfl, HB2.out⟩
end Go.Proofs.Ytgolbeoaomgmcaa
