/-
  The law HeapSets over this seat's translation: what was set last of a key is what it stands by. Conditions: those that each theorem states.
-/
import Derived.Test.YtngeinmpnjfhfaaHpDone
namespace Go.Proofs.Ytngeinmpnjfhfaa
open Go.RowKit Go.Shelf Go.Lib Go.Sort Hp Go.Maps

theorem mem_sans {L : List It} {k : Int} {x : It} : x ∈ sans L k ↔ x ∈ L ∧ x.1 ≠ k := by
  unfold sans
  rw [List.mem_filter]
  simp
theorem Step.keep {x : Ac} {es es' : List It} (h : Step x es es') {y : It} (hy : y ∈ es) (h6 : x.1 % 8 ≠ 6) (hne : x.2.1 ≠ y.1) : y ∈ es' := by
  unfold Step at h
  have hs : y ∈ sans es x.2.1 := mem_sans.2 ⟨hy, Ne.symm hne⟩
  split at h
  · exact h.mem_iff.2 (List.mem_cons_of_mem _ hs)
  · split at h
    · exact h.mem_iff.2 hs
    · rw [h]
      exact hy
/-- Between two calls. -/
structure SetI (w : World) (hb mb : Nat) (k b : Int) (i : Nat) (sv : Value) (es : List It) (wr : World) : Prop where
  below : Below w.heap.size w wr
  own : Own w.heap.size wr hb sv mb es
  mem : (k, b) ∈ es
  len : es.length ≤ i + 1

set_option maxHeartbeats 16000000 in
set_option maxRecDepth 1000000 in
theorem sets_c (q : Option Addr) (cap : Nat) (ys : List Ac) (k b : Int) (w : World) (hy : InList cA w q ys) (hyb : ∀ y ∈ ys, 0 ≤ y.1 ∧ y.1 ≤ 255 ∧ W64 y.2.1 ∧ W64 y.2.2) (hk : W64 k) :
    Calls Try.prog 7 #[.slice q ys.length cap, .int .i64 k, .int .i64 b] w fun e w' => e = .returned (.bool true) ∧ Below w.heap.size w w' := by
  have KA := Lib.hid fun (W : World) => awake_c W
  have HY := Lib.hid (And.intro hy hyb)
  have HK := Lib.hid hk
  clear hy hyb hk
  go_enter Try.func7, Try.ntmps7
  go_wp2_with fail
  refine (KA.out _).mono ?_
  rintro e w1 ⟨rfl, hb1⟩
  have HB1 := Lib.hid hb1
  clear hb1
  by_cases hlen : ys.length ≤ 200
  · have hd : decide ((ys.length : Int) > 200) = false := decide_eq_false (by omega)
    have KN := Lib.hid (new_o w1)
    go_wp2_with fail
    refine KN.out.mono ?_
    rintro e w2 ⟨hb2, hb, mb, sv0, rfl, hown⟩
    have hbw2 := bT' HB1.out hb2 HB1.out.size
    have hown : Own w.heap.size w2 hb sv0 mb [] := ⟨hown.heap, Nat.le_trans HB1.out.size hown.b1, Nat.le_trans HB1.out.size hown.b2, fun g e => Nat.le_trans HB1.out.size (hown.b3 g e)⟩
    have KS := set_o (k := k) (by0 := b) hown hbw2.size HK.out (by decide)
    have HB2 := Lib.hid hbw2
    clear hb2 hbw2 hown KN HB1
    go_wp2_with fail
    refine KS.mono ?_
    rintro e w3 ⟨rfl, sv1, es1, ho, hp, _, hl⟩
    have H3 := Lib.hid (show SetI w hb mb k b 0 sv1 es1 w3 from ⟨HB2.out.trans hl.below, ho, hp.mem_iff.2 (List.mem_cons_self ..), by rw [hp.length_eq]; exact Nat.le_refl _⟩)
    clear ho hp hl KS HB2
    go_wp2
    go_loopw [8, 9] (fun tv iv wr => ∃ (i : Nat) (sv : Value) (es : List It), tv = .bool true ∧ iv = .int .i64 i ∧ i ≤ ys.length ∧ Hid (SetI w hb mb k b i sv es wr)) (fun _ v _ => ys.length - (intOf v).toNat)
    case atStart => exact ⟨0, sv1, es1, rfl, rfl, Nat.zero_le _, H3⟩
    case round =>
      clear H3
      obtain ⟨i, sv, es, rfl, rfl, hi, HP⟩ := hrel
      by_cases hlt : i < ys.length
      · have hiz : (i : Int) < (ys.length : Int) := by omega
        have hp := HP.out
        obtain ⟨gl, off, rfl, hcells⟩ := (HY.out.1.below hp.below).acts (by omega)
        obtain ⟨c0, c1, c2⟩ := hcells i hlt
        have hdb := HY.out.2 ys[i] (List.getElem_mem hlt)
        obtain ⟨⟨d, xa, xb⟩, hd0⟩ : ∃ y : Ac, ys[i] = y := ⟨_, rfl⟩
        rw [hd0] at c0 c1 c2 hdb
        dsimp only at c0 c1 c2 hdb
        have hbX : Below wr.heap.size wr (wr.alloc (.cells #[.int .u8 d, .int .i64 xa, .int .i64 xb] 29)) := bA' (Below.refl _ _) (Nat.le_refl _) _
        have KD := done_o (d, xa, xb) (hp.own.below hbX) (by rw [World.size_alloc]; have := hp.below.size; omega) hdb (by have := hp.len; omega)
        have hr0 : Int.tmod d 8 = d % 8 := Int.tmod_eq_emod_of_nonneg hdb.1
        obtain ⟨r, hr⟩ : ∃ r, d % 8 = r := ⟨_, rfl⟩
        have hr1 : Int.tmod d 8 = r := by rw [hr0, hr]
        have hw8 : IntKind.u8.wrap r = r := by
          have : r = 0 ∨ r = 1 ∨ r = 2 ∨ r = 3 ∨ r = 4 ∨ r = 5 ∨ r = 6 ∨ r = 7 := by omega
          rcases this with rfl | rfl | rfl | rfl | rfl | rfl | rfl | rfl <;> decide
        have HX := Lib.hid (And.intro hbX hr)
        have hri : IntKind.i64.wrap ((i : Int) + 1) = ((i + 1 : Nat) : Int) := by rw [IntKind.wrap_i64]; omega
        clear hd0 hcells hbX hp hr0 hdb hr
        by_cases h6 : r = 6
        · have h6a : (r == 6) = true := by rw [beq_iff_eq]; exact h6
          have h6b : decide (r = 6) = true := decide_eq_true h6
          subst h6
          clear KD
          go_wp2
          exact ⟨⟨i + 1, sv, es, rfl, rfl, by omega, ⟨bT' HP.out.below HX.out.1 HP.out.below.size, HP.out.own.below HX.out.1, HP.out.mem, by have := HP.out.len; omega⟩⟩, by simp [intOf]; omega⟩
        · have h6a : (r == 6) = false := by rw [beq_eq_false_iff_ne]; exact h6
          have h6b : decide (r = 6) = false := decide_eq_false h6
          by_cases hx : xa = k
          · have hxa : (xa == k) = true := by rw [beq_iff_eq]; exact hx
            have hxb : decide (xa = k) = true := decide_eq_true hx
            subst hx
            clear KD
            go_wp2
            exact ⟨⟨i + 1, sv, es, rfl, rfl, by omega, ⟨bT' HP.out.below HX.out.1 HP.out.below.size, HP.out.own.below HX.out.1, HP.out.mem, by have := HP.out.len; omega⟩⟩, by simp [intOf]; omega⟩
          · have hxa : (xa == k) = false := by rw [beq_eq_false_iff_ne]; exact hx
            have hxb : decide (xa = k) = false := decide_eq_false hx
            have H6 := Lib.hid (And.intro h6 hx)
            clear h6 hx
            go_wp2_with fail
            refine KD.mono ?_
            rintro e w5 ⟨rfl, sv5, es5, ho, hs, _, hl⟩
            have hs1 : SetI w hb mb k b (i + 1) sv5 es5 w5 := ⟨(bT' HP.out.below HX.out.1 HP.out.below.size).trans hl.below, ho, hs.keep HP.out.mem (by rw [HX.out.2]; exact H6.out.1) H6.out.2, by have := HP.out.len; have := hs.len; omega⟩
            have KG := get_c hb mb k sv5 es5 w5 ho.heap HK.out
            have hge := getE_in ho.heap.dist hs1.mem
            dsimp only at hge
            rw [hge] at KG
            have HS := Lib.hid hs1
            clear ho hs hl hs1 hge KD
            go_wp2_with fail
            refine KG.mono ?_
            rintro e w6 ⟨rfl, hb6⟩
            have HS := Lib.hid (show SetI w hb mb k b (i + 1) sv5 es5 w6 from ⟨bT' HS.out.below hb6 HS.out.below.size, HS.out.own.below hb6, HS.out.mem, HS.out.len⟩)
            have hbb : (b == b) = true := by rw [beq_iff_eq]
            clear hb6 KG
            go_wp2
            exact ⟨⟨i + 1, sv5, es5, rfl, rfl, by omega, HS⟩, by simp [intOf]; omega⟩
      · obtain rfl : i = ys.length := by omega
        have hge := getE_in HP.out.own.heap.dist HP.out.mem
        dsimp only at hge
        have KD := del_o (k := k) HP.out.own HP.out.below.size HK.out (by have := HP.out.len; omega)
        rw [hge] at KD
        have HE := Lib.hid HP.out.len
        clear hge
        go_wp2_with fail
        refine KD.mono ?_
        rintro e w5 ⟨rfl, sv5, es5, ho, hp5, _, hl⟩
        have hlen5 : es5.length ≤ ys.length + 1 := by rw [hp5.length_eq]; exact Nat.le_trans (sans_le _ _) HE.out
        have KD2 := del_o (k := k) ho (by have := hl.below.size; have := HP.out.below.size; omega) HK.out (by omega)
        rw [getE_out fun x hx => (mem_sans.1 (hp5.mem_iff.1 hx)).2] at KD2
        have HB := Lib.hid (HP.out.below.trans hl.below)
        clear ho hp5 hl hlen5 KD
        go_wp2_with fail
        refine KD2.mono ?_
        rintro e w6 ⟨rfl, sv6, es6, ho, hp6, _, hl⟩
        have HB6 := Lib.hid (HB.out.trans hl.below)
        clear ho hp6 hl KD2
        go_wp2
        go_ret
        exact ⟨rfl, HB6.out⟩
  · have hd : decide ((ys.length : Int) > 200) = true := decide_eq_true (by omega)
    go_wp2_with fail
    refine (KA.out _).mono ?_
    rintro e w2 ⟨rfl, hb2⟩
    have HB2 := Lib.hid (bT' HB1.out hb2 HB1.out.size)
    clear hb2
    go_wp2
    go_ret
    exact ⟨rfl, HB2.out⟩
end Go.Proofs.Ytngeinmpnjfhfaa
