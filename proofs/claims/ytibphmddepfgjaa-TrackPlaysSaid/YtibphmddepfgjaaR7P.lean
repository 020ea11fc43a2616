/-
  The law TrackPlays over this seat's translation, from a track's contracts. Conditions: those that each theorem states.
-/
import Derived.Test.YtibphmddepfgjaaR7G
namespace Go.Proofs.Ytibphmddepfgjaa.Tr
open Go.RowKit Go.Shelf Go.Lib Go.Sort

/-- A call: which, at what stamp, with what number. -/
abbrev Ac := Int × Sp × Int
def cA (a : Ac) : List Value := [.int .u8 a.1, .int .i64 a.2.1.1, .int .i64 a.2.1.2.1, .int .i64 a.2.1.2.2, .int .i64 a.2.2]
theorem actAt {W : World} {p : Option Addr} {L : List Ac} {i : Nat} {a : Ac} (h : InList cA W p L) (hi : L[i]? = some a) : ∃ g off, p = some ⟨g, off, none⟩ ∧ W.cell? ⟨g, off + i * 5, none⟩ = some (.int .u8 a.1) ∧ W.cell? ⟨g, off + i * 5 + 1, none⟩ = some (.int .i64 a.2.1.1) ∧ W.cell? ⟨g, off + i * 5 + 2, none⟩ = some (.int .i64 a.2.1.2.1) ∧ W.cell? ⟨g, off + i * 5 + 3, none⟩ = some (.int .i64 a.2.1.2.2) ∧ W.cell? ⟨g, off + i * 5 + 4, none⟩ = some (.int .i64 a.2.2) := by
  rcases h with rfl | ⟨g, off, hp, h⟩
  · simp at hi
  · exact ⟨g, off, hp, h (i * 5 + 0) _ (flatG_at (m := 5) (fun _ => rfl) hi (j := 0) rfl), by rw [Nat.add_assoc]; exact h (i * 5 + 1) _ (flatG_at (m := 5) (fun _ => rfl) hi (j := 1) rfl), by rw [Nat.add_assoc]; exact h (i * 5 + 2) _ (flatG_at (m := 5) (fun _ => rfl) hi (j := 2) rfl), by rw [Nat.add_assoc]; exact h (i * 5 + 3) _ (flatG_at (m := 5) (fun _ => rfl) hi (j := 3) rfl), by rw [Nat.add_assoc]; exact h (i * 5 + 4) _ (flatG_at (m := 5) (fun _ => rfl) hi (j := 4) rfl)⟩
theorem cells5 {W : World} {b : Nat} {u0 u1 u2 u3 u4 : Value} {t : TypeId} (h : W.heap[b]? = some (.cells #[u0, u1, u2, u3, u4] t (0, 0))) : W.cell? ⟨b, 0, none⟩ = some u0 ∧ W.cell? ⟨b, 1, none⟩ = some u1 ∧ W.cell? ⟨b, 2, none⟩ = some u2 ∧ W.cell? ⟨b, 3, none⟩ = some u3 ∧ W.cell? ⟨b, 4, none⟩ = some u4 := by
  refine ⟨?_, ?_, ?_, ?_, ?_⟩ <;> (unfold World.cell?; rw [h]; rfl)
theorem lastD_at {U : List En} (h : U ≠ []) (d : En) : U[U.length - 1]? = some (U.getLastD d) := by
  rcases List.eq_nil_or_concat U with h0 | ⟨M, e, rfl⟩
  · exact absurd h0 h
  · rw [List.concat_eq_append]
    simp
/-- Between two calls. -/
structure PlI (Tk : World → Nat → Nat → List En → (Nat → Prop) → Prop) (w : World) (b k : Nat) (L : List En) (F : Nat → Prop) (mv : Value) (W : World) : Prop where
  law : Law Tk w b k L F W
  row : RowE W w.heap.size mv L
  ap : Apart F mv
theorem PlI.keep {Tk : World → Nat → Nat → List En → (Nat → Prop) → Prop} (C : TkC Tk) {w W W' : World} {b k : Nat} {L : List En} {F : Nat → Prop} {mv : Value} (h : PlI Tk w b k L F mv W) (hb : Below W.heap.size W W') : PlI Tk w b k L F mv W' := ⟨h.law.keep C hb, ownsRow_below h.row hb, h.ap⟩
/-- In a call. -/
structure P6 (Tk : World → Nat → Nat → List En → (Nat → Prop) → Prop) (w : World) (b k bx : Nat) (d : Int) (s : Sp) (x : Int) (mv a bb c : Value) (M T : List En) (F : Nat → Prop) (B6 : Nat) (W : World) : Prop where
  law : Law Tk w b k T F W
  row : RowE W w.heap.size mv M
  ap : Apart F mv
  box : W.heap[bx]? = some (.cells #[.int .u8 d, .int .i64 s.1, .int .i64 s.2.1, .int .i64 s.2.2, .int .i64 x] 44 (0, 0))
  nb : ¬ F bx
  r3 : Rows3 B6 a bb c (lessL M s) (levL M s) (moreL M s) W
  aa : Apart F a
  ab : Apart F bb
  ac : Apart F c
  base : w.heap.size ≤ B6
theorem P6.keep {Tk : World → Nat → Nat → List En → (Nat → Prop) → Prop} (C : TkC Tk) {w W W' : World} {b k bx : Nat} {d : Int} {s : Sp} {x : Int} {mv a bb c : Value} {M T : List En} {F : Nat → Prop} {B6 : Nat} (h : P6 Tk w b k bx d s x mv a bb c M T F B6 W) (hb : Below W.heap.size W W') : P6 Tk w b k bx d s x mv a bb c M T F B6 W' :=
  ⟨h.law.keep C hb, ownsRow_below h.row hb, h.ap, kbE h.box hb, h.nb, h.r3.below hb, h.aa, h.ab, h.ac, h.base⟩
theorem P6.turn {Tk : World → Nat → Nat → List En → (Nat → Prop) → Prop} {w W W' : World} {b k bx : Nat} {d : Int} {s : Sp} {x : Int} {mv a bb c : Value} {M T T' : List En} {F F' : Nat → Prop} {B6 : Nat} (h : P6 Tk w b k bx d s x mv a bb c M T F B6 W) (h1 : Tk W' b k T' F') (h2 : Within F F' W) (h3 : Leaves F W W') : P6 Tk w b k bx d s x mv a bb c M T' F' B6 W' :=
  ⟨h.law.turn h1 h2 h3, h3.row h.row h.ap, h2.apart h.row h.ap, (h3.same bx (Array.getElem?_eq_some_iff.1 h.box).1 h.nb).trans h.box, fun k => by
    rcases h2 bx k with h4 | h4
    · exact h.nb h4
    · have := (Array.getElem?_eq_some_iff.1 h.box).1
      omega, ⟨h3.row h.r3.ra h.aa, h3.row h.r3.rb h.ab, h3.row h.r3.rc h.ac, h.r3.ab, h.r3.ac, h.r3.bc⟩, h2.apart h.r3.ra h.aa, h2.apart h.r3.rb h.ab, h2.apart h.r3.rc h.ac, h.base⟩
/-- What is appended to a row of the law's own leaves the track. -/
theorem law_app {Tk : World → Nat → Nat → List En → (Nat → Prop) → Prop} (C : TkC Tk) {w W W' : World} {b k : Nat} {T : List En} {F : Nat → Prop} {v v' : Value} {L : List En} {B : Nat} (h : Law Tk w b k T F W) (hr : RowE W B v L) (ha : Apart F v) (hB : w.heap.size ≤ B) (hg : W.grownBy W' v.ownBlock) (hloc : v'.ownBlock = v.ownBlock ∨ v'.ownBlock = some W.heap.size) : Law Tk w b k T F W' ∧ Apart F v' := by
  refine ⟨h.grow C hg fun g e => ⟨ha g e, Nat.le_trans hB (hr.lt g e).1⟩, fun g e hF => ?_⟩
  rcases hloc with h1 | h1
  · exact ha g (h1 ▸ e) hF
  · rw [h1] at e
    cases e
    have := C.lt h.tk _ hF
    omega

set_option maxHeartbeats 64000000 in
set_option maxRecDepth 1000000 in
theorem plays_w {Tk : World → Nat → Nat → List En → (Nat → Prop) → Prop} (C : TkC Tk) (room : Int) (hro : In64 room) (acts : List Ac) (q : Option Addr) (cap : Nat) (w : World) (hl : InList cA w q acts) (hI : ∀ a ∈ acts, (0 ≤ a.1 ∧ a.1 ≤ 255) ∧ a.2.1.I ∧ In64 a.2.2)
    (k0 : ∀ W, Below w.heap.size w W → Calls Try.prog 8 #[] W fun e w' => e = .returned (.bool true) ∧ Below W.heap.size W w') :
    Calls Try.prog 4 #[.int .i64 room, .slice q acts.length cap] w fun e w' => e = .returned (.bool true) ∧ Below w.heap.size w w' := by
  have mixed : Try.prog.follows .mixedOrders = true := by kernel_rfl
  have K0 := Lib.hid k0
  have HL := Lib.hid hl
  have HC := Lib.hid C
  have HI := Lib.hid hI
  clear k0 hl C hI
  go_enter Try.func4, Try.ntmps4
  go_wp2_with fail
  refine (K0.out w (Below.refl _ _)).mono ?_
  rintro e w2 ⟨rfl, hb2⟩
  have HB2 := Lib.hid hb2
  clear hb2
  by_cases h200 : acts.length ≤ 200
  · have hd : decide ((acts.length : Int) > 200) = false := decide_eq_false (by omega)
    have hd2 : decide (200 < acts.length) = false := decide_eq_false (by omega)
    have HN := Lib.hid h200
    clear h200
    by_cases hk : 1 ≤ room ∧ room ≤ 1048576
    · obtain ⟨k, rfl⟩ : ∃ k : Nat, room = (k : Int) := ⟨room.toNat, by omega⟩
      have hk1 : 1 ≤ k := by omega
      have hk2 : k ≤ 1048576 := by omega
      have hr1 : decide ((k : Int) < 1) = false := decide_eq_false (by omega)
      have hr2 : decide ((k : Int) > 1048576) = false := decide_eq_false (by omega)
      have hr3 : decide (k < 1) = false := decide_eq_false (by omega)
      have hr4 : decide (1048576 < k) = false := decide_eq_false (by omega)
      have hr5 : decide (k = 0) = false := decide_eq_false (by omega)
      have hr6 : ¬ k = 0 := by omega
      have HK := Lib.hid (And.intro hk1 hk2)
      clear hk hro hk1 hk2
      go_wp2_with fail
      refine (HC.out.new k w2 HK.out.1 HK.out.2).mono ?_
      rintro e w3 ⟨b, F0, rfl, htk, hF0, hb3⟩
      have H3 : Hid (∃ L F, PlI Tk w b k L F (.slice none 0 0) w3) := Lib.hid ⟨[], F0, ⟨htk, fun x hx => Nat.le_trans HB2.out.size (hF0 x hx), bT' HB2.out hb3 HB2.out.size⟩, World.ownsRow_nil _ _ _ _, fun g e => by cases e⟩
      clear htk hF0 hb3 hd hd2
      go_wp2
      clear hr1 hr2 hr3 hr4 hr5 hr6
      go_loopw [7, 8] (fun mv iv wr => ∃ i : Nat, iv = .int .i64 (i : Int) ∧ i ≤ acts.length ∧ Hid (∃ L F, PlI Tk w b k L F mv wr)) (fun _ v _ => acts.length - (intOf v).toNat)
      case atStart => exact ⟨0, rfl, Nat.zero_le _, H3⟩
      case round =>
        clear H3
        obtain ⟨i, rfl, hi, HP⟩ := hrel
        obtain ⟨L, F, hP⟩ := HP.out
        obtain ⟨p, cp, rfl, hfl⟩ := RowE.form hP.row
        have hok := HC.out.ok hP.law.tk
        have HOK := Lib.hid (And.intro hok (show L.length ≤ 1048576 from Nat.le_trans hok.2.2.1 hok.2.1))
        by_cases hlt : i < acts.length
        · have hiz : (i : Int) < (acts.length : Int) := by omega
          have hi0z : (0 : Int) ≤ (i : Int) := by omega
          have hri : IntKind.i64.wrap ((i : Int) + 1) = ((i + 1 : Nat) : Int) := by rw [IntKind.wrap_i64]; have := HN.out; omega
          obtain ⟨⟨d, s, x⟩, hx⟩ : ∃ a, acts[i]? = some a := ⟨_, List.getElem?_eq_getElem hlt⟩
          obtain ⟨g, off, rfl, e0, e1, e2, e3, e4⟩ := actAt (HL.out.below hP.law.below) hx
          obtain ⟨hd0, hsI, hxI⟩ := HI.out _ (List.mem_of_getElem? hx)
          dsimp only at e0 e1 e2 e3 e4 hd0 hsI hxI
          have HS := Lib.hid (And.intro hsI hxI)
          obtain ⟨r, hr⟩ : ∃ r, d % 7 = r := ⟨_, rfl⟩
          have hr1 : Int.tmod d 7 = r := by rw [Int.tmod_eq_emod_of_nonneg hd0.1, hr]
          have hr7 : r = 0 ∨ r = 1 ∨ r = 2 ∨ r = 3 ∨ r = 4 ∨ r = 5 ∨ r = 6 := by omega
          have hw8 : IntKind.u8.wrap r = r := by rcases hr7 with rfl | rfl | rfl | rfl | rfl | rfl | rfl <;> decide
          obtain ⟨V0, hV0⟩ : ∃ V, wr.alloc (.cells #[.int .u8 d, .int .i64 s.1, .int .i64 s.2.1, .int .i64 s.2.2, .int .i64 x] 44) = V := ⟨_, rfl⟩
          obtain ⟨bx, hbx⟩ : ∃ y, wr.heap.size = y := ⟨_, rfl⟩
          have hbv : Below wr.heap.size wr V0 := hV0 ▸ bA' (Below.refl _ _) (Nat.le_refl _) _
          have hP0 := hP.keep HC.out hbv
          have hbox0 : V0.heap[bx]? = some (.cells #[.int .u8 d, .int .i64 s.1, .int .i64 s.2.1, .int .i64 s.2.2, .int .i64 x] 44 (0, 0)) := by rw [← hV0, ← hbx]; exact World.alloc_heap_new wr _
          have hnb0 : ¬ F bx := fun h => by have := HC.out.lt hP.law.tk bx h; omega
          have KP := Lib.hid (parts_c L s p cp V0 (Nat.le_trans HOK.out.2 (by decide : 1048576 ≤ 4000000)) hsI (fun e he => (hok.2.2.2.2 e he).1) (FlatE.in (hfl.keep hbv)))
          have H0 := Lib.hid (And.intro hP0 (And.intro hbox0 (And.intro hnb0 (show w.heap.size ≤ V0.heap.size from hP0.law.below.size))))
          have HMV := Lib.hid (show ∀ g, (Value.slice p L.length cp).ownBlock = some g → g < V0.heap.size from fun g e => (hP0.row.lt g e).2)
          have HLT := Lib.hid hlt
          have HV := Lib.hid (And.intro hV0 hbx)
          have HR := Lib.hid hr7
          clear hP hfl hok hlt hi hx hd0 hsI hxI hr hr7 hV0 hbx hbv hP0 hbox0 hnb0 HP
          go_wp2_with fail
          rw [HV.out.1]
          simp only [HV.out.2]
          clear HV e0 e1 e2 e3 e4
          refine KP.out.mono ?_
          rintro e w5 ⟨⟨ra, rb, rc, rfl, h3⟩, hb5⟩
          have hP5 : P6 Tk w b k bx d s x (.slice p L.length cp) ra rb rc L L F V0.heap.size w5 := by
            have hk := H0.out.1.keep HC.out hb5
            have hap : ∀ v : Value, (∀ g, v.ownBlock = some g → V0.heap.size ≤ g) → Apart F v := fun v hv g e h => by
              have := HC.out.lt H0.out.1.law.tk g h
              have := hv g e
              omega
            exact ⟨hk.law, hk.row, hk.ap, kbE H0.out.2.1 hb5, H0.out.2.2.1, h3, hap _ fun g e => (h3.ra.lt g e).1, hap _ fun g e => (h3.rb.lt g e).1, hap _ fun g e => (h3.rc.lt g e).1, H0.out.2.2.2⟩
          have H5 := Lib.hid hP5
          have HS5 := Lib.hid hb5.size
          obtain ⟨c0, c1, c2, c3, c4⟩ := cells5 hP5.box
          obtain ⟨pa, ca, rfl, hfa⟩ := RowE.form h3.ra
          obtain ⟨pb, cb, rfl, hfb⟩ := RowE.form h3.rb
          obtain ⟨pc, cc, rfl, hfc⟩ := RowE.form h3.rc
          clear hP5 h3 hb5 KP H0 hfa hfb hfc
          go_wp2_with fail
          clear c0 c1 c2 c3 c4
          refine (r6right_c _ _ _ HS.out.1 _).mono ?_
          rintro e w6 ⟨rfl, hb6⟩
          have H6 := Lib.hid (H5.out.keep HC.out hb6)
          have H6S := Lib.hid (Nat.le_trans HS5.out hb6.size)
          clear hb6 H5 HS5
          obtain ⟨c0, c1, c2, c3, c4⟩ := cells5 H6.out.box
          rcases HR.out with rfl | rfl | rfl | rfl | rfl | rfl | rfl
          · as_aux_lemma =>
              have KRP := Lib.hid (fun (W : World) (hf : FlatE W p L) => rput_c k L s x p cp W HK.out.2 (Nat.le_trans HOK.out.2 (by decide : 1048576 ≤ 4000000)) HS.out.1 (fun e he => (HOK.out.1.2.2.2.2 e he).1) hf)
              have HPL := Lib.hid (show putL k L s x = if putE k L s = 0 then L ++ [(s, x)] else L from rfl)
              have hfl6 : FlatE w6 p L := by
                obtain ⟨p2, c2, he2, hf2⟩ := RowE.form H6.out.row
                obtain rfl : p = p2 := by simpa using (Value.slice.inj he2).1
                exact hf2
              have KR6 := Lib.hid (KRP.out w6 hfl6)
              obtain ⟨E, hE⟩ : ∃ E, putE k L s = E := ⟨_, rfl⟩
              rw [hE] at KR6 HPL
              have HEE := Lib.hid hE
              clear hfl6 KRP hE
              by_cases h0 : E = 0
              · subst h0
                have HPL2 := Lib.hid (show putL k L s x = L ++ [(s, x)] from by rw [HPL.out, if_pos rfl])
                go_wp2_with fail
                clear c0 c1 c2 c3 c4
                refine KR6.out.mono ?_
                rintro e w6b ⟨hpp, hb6b⟩
                obtain ⟨v, rfl, hv⟩ : ∃ v, e = .returned (.tuple #[v, .int .i64 0]) ∧ RowE w6b w6.heap.size v (L ++ [(s, x)]) := by unfold putP at hpp; rwa [if_pos rfl] at hpp
                have hav : Apart F v := fun g e h => by
                  have h1 := HC.out.lt H6.out.law.tk g h
                  have h2 := (hv.lt g e).1
                  omega
                have hb6w := H6.out.law.below.size
                have HV := Lib.hid (And.intro (ownsRow_low hv hb6w) hav)
                replace H6S := Lib.hid (Nat.le_trans H6S.out hb6b.size)
                replace H6 := Lib.hid (H6.out.keep HC.out hb6b)
                obtain ⟨c0, c1, c2, c3, c4⟩ := cells5 H6.out.box
                clear hpp hb6b hv hav hb6w KR6
                go_wp2_with fail
                go_region_held3 (fun w' => w'.cell? ⟨bx, 1, none⟩ = some (.int .i64 s.1) ∧ w'.cell? ⟨bx, 2, none⟩ = some (.int .i64 s.2.1) ∧ w'.cell? ⟨bx, 3, none⟩ = some (.int .i64 s.2.2) ∧ w'.cell? ⟨bx, 4, none⟩ = some (.int .i64 x))
                  (first | exact ⟨t1, t2, t3, t4⟩ | (go_split_ands; with_reducible exact ⟨keepc hb (by assumption), keepc hb (by assumption), keepc hb (by assumption), keepc hb (by assumption)⟩) | exact ⟨c1, c2, c3, c4⟩ | go_keep)
                  (first
                    | (go_at_call 11; refine (of7_c _ _ _ _).mono ?_; rintro e w7 ⟨rfl, hb⟩; have H7 := Lib.hid (H6.out.keep HC.out (belowT (by repeat (first | with_reducible exact Below.refl _ _ | with_reducible refine Below.drew ?_ | with_reducible refine belowN ?_ _)) hb)); have H7S := Lib.hid (Nat.le_trans H6S.out (belowT (by repeat (first | with_reducible exact Below.refl _ _ | with_reducible refine Below.drew ?_ | with_reducible refine belowN ?_ _)) hb).size))
                    | (go_at_call 10; refine (HC.out.put s x H7.out.law.tk HS.out.1 HS.out.2).mono ?_; rintro e w9 ⟨rfl, F2, hT9, hw9, hl9⟩; rw [HEE.out]; have H9 := Lib.hid (H7.out.turn hT9 hw9 hl9); have hr7 : RowE w7 w.heap.size v (L ++ [(s, x)]) := ownsRow_below HV.out.1 (belowT (by repeat (first | with_reducible exact Below.refl _ _ | with_reducible refine Below.drew ?_ | with_reducible refine belowN ?_ _)) hb); have HV9 := Lib.hid (And.intro (hl9.row hr7 HV.out.2) (hw9.apart hr7 HV.out.2)); obtain ⟨t0, t1, t2, t3, t4⟩ := cells5 H9.out.box; clear hb hT9 hw9 hl9 hr7))
                all_goals
                  clear c0 c1 c2 c3 c4 t0 t1 t2 t3 t4
                  have HE : Hid (PlI Tk w b k (L ++ [(s, x)]) F2 v w9) := Lib.hid ⟨by rw [← HPL2.out]; exact H9.out.law, HV9.out.1, HV9.out.2⟩
                  obtain ⟨pv, cv, rfl, -⟩ := RowE.form HE.out.row
                  have KLN := Lib.hid (HC.out.len HE.out.law.tk)
                  have hnn : (((L ++ [(s, x)]).length : Int) != ((L ++ [(s, x)]).length : Int)) = false := by simp
                  go_wp2_with fail
                  refine KLN.out.mono ?_
                  rintro e w20 ⟨rfl, hb20⟩
                  have HE2 := Lib.hid (HE.out.keep HC.out hb20)
                  clear hb20
                  go_wp2
                  exact ⟨⟨i + 1, rfl, HLT.out, Lib.hid ⟨L ++ [(s, x)], _, by have h := HE2.out; first | exact h | (simp only [List.length_append] at h ⊢; exact h)⟩⟩, by have := HLT.out; simp [intOf]; omega⟩
              · have HPL2 := Lib.hid (show putL k L s x = L from by rw [HPL.out, if_neg h0])
                have H00 := Lib.hid h0
                clear h0
                go_wp2_with fail
                clear c0 c1 c2 c3 c4
                refine KR6.out.mono ?_
                rintro e w6b ⟨hpp, hb6b⟩
                obtain rfl : e = .returned (.tuple #[.slice p L.length cp, .int .i64 E]) := by unfold putP at hpp; rwa [if_neg H00.out] at hpp
                replace H6S := Lib.hid (Nat.le_trans H6S.out hb6b.size)
                replace H6 := Lib.hid (H6.out.keep HC.out hb6b)
                obtain ⟨c0, c1, c2, c3, c4⟩ := cells5 H6.out.box
                clear hpp hb6b KR6
                go_wp2_with fail
                go_region_held3 (fun w' => w'.cell? ⟨bx, 1, none⟩ = some (.int .i64 s.1) ∧ w'.cell? ⟨bx, 2, none⟩ = some (.int .i64 s.2.1) ∧ w'.cell? ⟨bx, 3, none⟩ = some (.int .i64 s.2.2) ∧ w'.cell? ⟨bx, 4, none⟩ = some (.int .i64 x))
                  (first | exact ⟨t1, t2, t3, t4⟩ | (go_split_ands; with_reducible exact ⟨keepc hb (by assumption), keepc hb (by assumption), keepc hb (by assumption), keepc hb (by assumption)⟩) | exact ⟨c1, c2, c3, c4⟩ | go_keep)
                  (first
                    | (go_at_call 11; refine (of7_c _ _ _ _).mono ?_; rintro e w7 ⟨rfl, hb⟩; have H7 := Lib.hid (H6.out.keep HC.out (belowT (by repeat (first | with_reducible exact Below.refl _ _ | with_reducible refine Below.drew ?_ | with_reducible refine belowN ?_ _)) hb)); have H7S := Lib.hid (Nat.le_trans H6S.out (belowT (by repeat (first | with_reducible exact Below.refl _ _ | with_reducible refine Below.drew ?_ | with_reducible refine belowN ?_ _)) hb).size))
                    | (go_at_call 10; refine (HC.out.put s x H7.out.law.tk HS.out.1 HS.out.2).mono ?_; rintro e w9 ⟨rfl, F2, hT9, hw9, hl9⟩; rw [HEE.out]; have H9 := Lib.hid (H7.out.turn hT9 hw9 hl9); obtain ⟨t0, t1, t2, t3, t4⟩ := cells5 H9.out.box; clear hb hT9 hw9 hl9))
                all_goals
                  clear c0 c1 c2 c3 c4 t0 t1 t2 t3 t4
                  have HE : Hid (PlI Tk w b k L F2 (.slice p L.length cp) w9) := Lib.hid ⟨by have h := H9.out.law; rwa [HPL2.out] at h, H9.out.row, H9.out.ap⟩
                  have KLN := Lib.hid (HC.out.len HE.out.law.tk)
                  have hnn : (((L).length : Int) != ((L).length : Int)) = false := by simp
                  go_wp2_with fail
                  refine KLN.out.mono ?_
                  rintro e w20 ⟨rfl, hb20⟩
                  have HE2 := Lib.hid (HE.out.keep HC.out hb20)
                  clear hb20
                  go_wp2
                  exact ⟨⟨i + 1, rfl, HLT.out, Lib.hid ⟨L, _, by have h := HE2.out; first | exact h | (simp only [List.length_append] at h ⊢; exact h)⟩⟩, by have := HLT.out; simp [intOf]; omega⟩
          · as_aux_lemma =>
              have KRP := Lib.hid (fun (W : World) (hf : FlatE W p L) => rput_c k L s x p cp W HK.out.2 (Nat.le_trans HOK.out.2 (by decide : 1048576 ≤ 4000000)) HS.out.1 (fun e he => (HOK.out.1.2.2.2.2 e he).1) hf)
              have HPL := Lib.hid (show putL k L s x = if putE k L s = 0 then L ++ [(s, x)] else L from rfl)
              have hfl6 : FlatE w6 p L := by
                obtain ⟨p2, c2, he2, hf2⟩ := RowE.form H6.out.row
                obtain rfl : p = p2 := by simpa using (Value.slice.inj he2).1
                exact hf2
              have KR6 := Lib.hid (KRP.out w6 hfl6)
              obtain ⟨E, hE⟩ : ∃ E, putE k L s = E := ⟨_, rfl⟩
              rw [hE] at KR6 HPL
              have HEE := Lib.hid hE
              clear hfl6 KRP hE
              by_cases h0 : E = 0
              · subst h0
                have HPL2 := Lib.hid (show putL k L s x = L ++ [(s, x)] from by rw [HPL.out, if_pos rfl])
                go_wp2_with fail
                clear c0 c1 c2 c3 c4
                refine KR6.out.mono ?_
                rintro e w6b ⟨hpp, hb6b⟩
                obtain ⟨v, rfl, hv⟩ : ∃ v, e = .returned (.tuple #[v, .int .i64 0]) ∧ RowE w6b w6.heap.size v (L ++ [(s, x)]) := by unfold putP at hpp; rwa [if_pos rfl] at hpp
                have hav : Apart F v := fun g e h => by
                  have h1 := HC.out.lt H6.out.law.tk g h
                  have h2 := (hv.lt g e).1
                  omega
                have hb6w := H6.out.law.below.size
                have HV := Lib.hid (And.intro (ownsRow_low hv hb6w) hav)
                replace H6S := Lib.hid (Nat.le_trans H6S.out hb6b.size)
                replace H6 := Lib.hid (H6.out.keep HC.out hb6b)
                obtain ⟨c0, c1, c2, c3, c4⟩ := cells5 H6.out.box
                clear hpp hb6b hv hav hb6w KR6
                go_wp2_with fail
                go_region_held3 (fun w' => w'.cell? ⟨bx, 1, none⟩ = some (.int .i64 s.1) ∧ w'.cell? ⟨bx, 2, none⟩ = some (.int .i64 s.2.1) ∧ w'.cell? ⟨bx, 3, none⟩ = some (.int .i64 s.2.2) ∧ w'.cell? ⟨bx, 4, none⟩ = some (.int .i64 x))
                  (first | exact ⟨t1, t2, t3, t4⟩ | (go_split_ands; with_reducible exact ⟨keepc hb (by assumption), keepc hb (by assumption), keepc hb (by assumption), keepc hb (by assumption)⟩) | exact ⟨c1, c2, c3, c4⟩ | go_keep)
                  (first
                    | (go_at_call 11; refine (of7_c _ _ _ _).mono ?_; rintro e w7 ⟨rfl, hb⟩; have H7 := Lib.hid (H6.out.keep HC.out (belowT (by repeat (first | with_reducible exact Below.refl _ _ | with_reducible refine Below.drew ?_ | with_reducible refine belowN ?_ _)) hb)); have H7S := Lib.hid (Nat.le_trans H6S.out (belowT (by repeat (first | with_reducible exact Below.refl _ _ | with_reducible refine Below.drew ?_ | with_reducible refine belowN ?_ _)) hb).size))
                    | (go_at_call 10; refine (HC.out.put s x H7.out.law.tk HS.out.1 HS.out.2).mono ?_; rintro e w9 ⟨rfl, F2, hT9, hw9, hl9⟩; rw [HEE.out]; have H9 := Lib.hid (H7.out.turn hT9 hw9 hl9); have hr7 : RowE w7 w.heap.size v (L ++ [(s, x)]) := ownsRow_below HV.out.1 (belowT (by repeat (first | with_reducible exact Below.refl _ _ | with_reducible refine Below.drew ?_ | with_reducible refine belowN ?_ _)) hb); have HV9 := Lib.hid (And.intro (hl9.row hr7 HV.out.2) (hw9.apart hr7 HV.out.2)); obtain ⟨t0, t1, t2, t3, t4⟩ := cells5 H9.out.box; clear hb hT9 hw9 hl9 hr7))
                all_goals
                  clear c0 c1 c2 c3 c4 t0 t1 t2 t3 t4
                  have HE : Hid (PlI Tk w b k (L ++ [(s, x)]) F2 v w9) := Lib.hid ⟨by rw [← HPL2.out]; exact H9.out.law, HV9.out.1, HV9.out.2⟩
                  obtain ⟨pv, cv, rfl, -⟩ := RowE.form HE.out.row
                  have KLN := Lib.hid (HC.out.len HE.out.law.tk)
                  have hnn : (((L ++ [(s, x)]).length : Int) != ((L ++ [(s, x)]).length : Int)) = false := by simp
                  go_wp2_with fail
                  refine KLN.out.mono ?_
                  rintro e w20 ⟨rfl, hb20⟩
                  have HE2 := Lib.hid (HE.out.keep HC.out hb20)
                  clear hb20
                  go_wp2
                  exact ⟨⟨i + 1, rfl, HLT.out, Lib.hid ⟨L ++ [(s, x)], _, by have h := HE2.out; first | exact h | (simp only [List.length_append] at h ⊢; exact h)⟩⟩, by have := HLT.out; simp [intOf]; omega⟩
              · have HPL2 := Lib.hid (show putL k L s x = L from by rw [HPL.out, if_neg h0])
                have H00 := Lib.hid h0
                clear h0
                go_wp2_with fail
                clear c0 c1 c2 c3 c4
                refine KR6.out.mono ?_
                rintro e w6b ⟨hpp, hb6b⟩
                obtain rfl : e = .returned (.tuple #[.slice p L.length cp, .int .i64 E]) := by unfold putP at hpp; rwa [if_neg H00.out] at hpp
                replace H6S := Lib.hid (Nat.le_trans H6S.out hb6b.size)
                replace H6 := Lib.hid (H6.out.keep HC.out hb6b)
                obtain ⟨c0, c1, c2, c3, c4⟩ := cells5 H6.out.box
                clear hpp hb6b KR6
                go_wp2_with fail
                go_region_held3 (fun w' => w'.cell? ⟨bx, 1, none⟩ = some (.int .i64 s.1) ∧ w'.cell? ⟨bx, 2, none⟩ = some (.int .i64 s.2.1) ∧ w'.cell? ⟨bx, 3, none⟩ = some (.int .i64 s.2.2) ∧ w'.cell? ⟨bx, 4, none⟩ = some (.int .i64 x))
                  (first | exact ⟨t1, t2, t3, t4⟩ | (go_split_ands; with_reducible exact ⟨keepc hb (by assumption), keepc hb (by assumption), keepc hb (by assumption), keepc hb (by assumption)⟩) | exact ⟨c1, c2, c3, c4⟩ | go_keep)
                  (first
                    | (go_at_call 11; refine (of7_c _ _ _ _).mono ?_; rintro e w7 ⟨rfl, hb⟩; have H7 := Lib.hid (H6.out.keep HC.out (belowT (by repeat (first | with_reducible exact Below.refl _ _ | with_reducible refine Below.drew ?_ | with_reducible refine belowN ?_ _)) hb)); have H7S := Lib.hid (Nat.le_trans H6S.out (belowT (by repeat (first | with_reducible exact Below.refl _ _ | with_reducible refine Below.drew ?_ | with_reducible refine belowN ?_ _)) hb).size))
                    | (go_at_call 10; refine (HC.out.put s x H7.out.law.tk HS.out.1 HS.out.2).mono ?_; rintro e w9 ⟨rfl, F2, hT9, hw9, hl9⟩; rw [HEE.out]; have H9 := Lib.hid (H7.out.turn hT9 hw9 hl9); obtain ⟨t0, t1, t2, t3, t4⟩ := cells5 H9.out.box; clear hb hT9 hw9 hl9))
                all_goals
                  clear c0 c1 c2 c3 c4 t0 t1 t2 t3 t4
                  have HE : Hid (PlI Tk w b k L F2 (.slice p L.length cp) w9) := Lib.hid ⟨by have h := H9.out.law; rwa [HPL2.out] at h, H9.out.row, H9.out.ap⟩
                  have KLN := Lib.hid (HC.out.len HE.out.law.tk)
                  have hnn : (((L).length : Int) != ((L).length : Int)) = false := by simp
                  go_wp2_with fail
                  refine KLN.out.mono ?_
                  rintro e w20 ⟨rfl, hb20⟩
                  have HE2 := Lib.hid (HE.out.keep HC.out hb20)
                  clear hb20
                  go_wp2
                  exact ⟨⟨i + 1, rfl, HLT.out, Lib.hid ⟨L, _, by have h := HE2.out; first | exact h | (simp only [List.length_append] at h ⊢; exact h)⟩⟩, by have := HLT.out; simp [intOf]; omega⟩
          · as_aux_lemma =>
              have KRP := Lib.hid (fun (W : World) (hf : FlatE W p L) => rput_c k L s x p cp W HK.out.2 (Nat.le_trans HOK.out.2 (by decide : 1048576 ≤ 4000000)) HS.out.1 (fun e he => (HOK.out.1.2.2.2.2 e he).1) hf)
              have HPL := Lib.hid (show putL k L s x = if putE k L s = 0 then L ++ [(s, x)] else L from rfl)
              have hfl6 : FlatE w6 p L := by
                obtain ⟨p2, c2, he2, hf2⟩ := RowE.form H6.out.row
                obtain rfl : p = p2 := by simpa using (Value.slice.inj he2).1
                exact hf2
              have KR6 := Lib.hid (KRP.out w6 hfl6)
              obtain ⟨E, hE⟩ : ∃ E, putE k L s = E := ⟨_, rfl⟩
              rw [hE] at KR6 HPL
              have HEE := Lib.hid hE
              clear hfl6 KRP hE
              by_cases h0 : E = 0
              · subst h0
                have HPL2 := Lib.hid (show putL k L s x = L ++ [(s, x)] from by rw [HPL.out, if_pos rfl])
                go_wp2_with fail
                clear c0 c1 c2 c3 c4
                refine KR6.out.mono ?_
                rintro e w6b ⟨hpp, hb6b⟩
                obtain ⟨v, rfl, hv⟩ : ∃ v, e = .returned (.tuple #[v, .int .i64 0]) ∧ RowE w6b w6.heap.size v (L ++ [(s, x)]) := by unfold putP at hpp; rwa [if_pos rfl] at hpp
                have hav : Apart F v := fun g e h => by
                  have h1 := HC.out.lt H6.out.law.tk g h
                  have h2 := (hv.lt g e).1
                  omega
                have hb6w := H6.out.law.below.size
                have HV := Lib.hid (And.intro (ownsRow_low hv hb6w) hav)
                replace H6S := Lib.hid (Nat.le_trans H6S.out hb6b.size)
                replace H6 := Lib.hid (H6.out.keep HC.out hb6b)
                obtain ⟨c0, c1, c2, c3, c4⟩ := cells5 H6.out.box
                clear hpp hb6b hv hav hb6w KR6
                go_wp2_with fail
                go_region_held3 (fun w' => w'.cell? ⟨bx, 1, none⟩ = some (.int .i64 s.1) ∧ w'.cell? ⟨bx, 2, none⟩ = some (.int .i64 s.2.1) ∧ w'.cell? ⟨bx, 3, none⟩ = some (.int .i64 s.2.2) ∧ w'.cell? ⟨bx, 4, none⟩ = some (.int .i64 x))
                  (first | exact ⟨t1, t2, t3, t4⟩ | (go_split_ands; with_reducible exact ⟨keepc hb (by assumption), keepc hb (by assumption), keepc hb (by assumption), keepc hb (by assumption)⟩) | exact ⟨c1, c2, c3, c4⟩ | go_keep)
                  (first
                    | (go_at_call 11; refine (of7_c _ _ _ _).mono ?_; rintro e w7 ⟨rfl, hb⟩; have H7 := Lib.hid (H6.out.keep HC.out (belowT (by repeat (first | with_reducible exact Below.refl _ _ | with_reducible refine Below.drew ?_ | with_reducible refine belowN ?_ _)) hb)); have H7S := Lib.hid (Nat.le_trans H6S.out (belowT (by repeat (first | with_reducible exact Below.refl _ _ | with_reducible refine Below.drew ?_ | with_reducible refine belowN ?_ _)) hb).size))
                    | (go_at_call 10; refine (HC.out.put s x H7.out.law.tk HS.out.1 HS.out.2).mono ?_; rintro e w9 ⟨rfl, F2, hT9, hw9, hl9⟩; rw [HEE.out]; have H9 := Lib.hid (H7.out.turn hT9 hw9 hl9); have hr7 : RowE w7 w.heap.size v (L ++ [(s, x)]) := ownsRow_below HV.out.1 (belowT (by repeat (first | with_reducible exact Below.refl _ _ | with_reducible refine Below.drew ?_ | with_reducible refine belowN ?_ _)) hb); have HV9 := Lib.hid (And.intro (hl9.row hr7 HV.out.2) (hw9.apart hr7 HV.out.2)); obtain ⟨t0, t1, t2, t3, t4⟩ := cells5 H9.out.box; clear hb hT9 hw9 hl9 hr7))
                all_goals
                  clear c0 c1 c2 c3 c4 t0 t1 t2 t3 t4
                  have HE : Hid (PlI Tk w b k (L ++ [(s, x)]) F2 v w9) := Lib.hid ⟨by rw [← HPL2.out]; exact H9.out.law, HV9.out.1, HV9.out.2⟩
                  obtain ⟨pv, cv, rfl, -⟩ := RowE.form HE.out.row
                  have KLN := Lib.hid (HC.out.len HE.out.law.tk)
                  have hnn : (((L ++ [(s, x)]).length : Int) != ((L ++ [(s, x)]).length : Int)) = false := by simp
                  go_wp2_with fail
                  refine KLN.out.mono ?_
                  rintro e w20 ⟨rfl, hb20⟩
                  have HE2 := Lib.hid (HE.out.keep HC.out hb20)
                  clear hb20
                  go_wp2
                  exact ⟨⟨i + 1, rfl, HLT.out, Lib.hid ⟨L ++ [(s, x)], _, by have h := HE2.out; first | exact h | (simp only [List.length_append] at h ⊢; exact h)⟩⟩, by have := HLT.out; simp [intOf]; omega⟩
              · have HPL2 := Lib.hid (show putL k L s x = L from by rw [HPL.out, if_neg h0])
                have H00 := Lib.hid h0
                clear h0
                go_wp2_with fail
                clear c0 c1 c2 c3 c4
                refine KR6.out.mono ?_
                rintro e w6b ⟨hpp, hb6b⟩
                obtain rfl : e = .returned (.tuple #[.slice p L.length cp, .int .i64 E]) := by unfold putP at hpp; rwa [if_neg H00.out] at hpp
                replace H6S := Lib.hid (Nat.le_trans H6S.out hb6b.size)
                replace H6 := Lib.hid (H6.out.keep HC.out hb6b)
                obtain ⟨c0, c1, c2, c3, c4⟩ := cells5 H6.out.box
                clear hpp hb6b KR6
                go_wp2_with fail
                go_region_held3 (fun w' => w'.cell? ⟨bx, 1, none⟩ = some (.int .i64 s.1) ∧ w'.cell? ⟨bx, 2, none⟩ = some (.int .i64 s.2.1) ∧ w'.cell? ⟨bx, 3, none⟩ = some (.int .i64 s.2.2) ∧ w'.cell? ⟨bx, 4, none⟩ = some (.int .i64 x))
                  (first | exact ⟨t1, t2, t3, t4⟩ | (go_split_ands; with_reducible exact ⟨keepc hb (by assumption), keepc hb (by assumption), keepc hb (by assumption), keepc hb (by assumption)⟩) | exact ⟨c1, c2, c3, c4⟩ | go_keep)
                  (first
                    | (go_at_call 11; refine (of7_c _ _ _ _).mono ?_; rintro e w7 ⟨rfl, hb⟩; have H7 := Lib.hid (H6.out.keep HC.out (belowT (by repeat (first | with_reducible exact Below.refl _ _ | with_reducible refine Below.drew ?_ | with_reducible refine belowN ?_ _)) hb)); have H7S := Lib.hid (Nat.le_trans H6S.out (belowT (by repeat (first | with_reducible exact Below.refl _ _ | with_reducible refine Below.drew ?_ | with_reducible refine belowN ?_ _)) hb).size))
                    | (go_at_call 10; refine (HC.out.put s x H7.out.law.tk HS.out.1 HS.out.2).mono ?_; rintro e w9 ⟨rfl, F2, hT9, hw9, hl9⟩; rw [HEE.out]; have H9 := Lib.hid (H7.out.turn hT9 hw9 hl9); obtain ⟨t0, t1, t2, t3, t4⟩ := cells5 H9.out.box; clear hb hT9 hw9 hl9))
                all_goals
                  clear c0 c1 c2 c3 c4 t0 t1 t2 t3 t4
                  have HE : Hid (PlI Tk w b k L F2 (.slice p L.length cp) w9) := Lib.hid ⟨by have h := H9.out.law; rwa [HPL2.out] at h, H9.out.row, H9.out.ap⟩
                  have KLN := Lib.hid (HC.out.len HE.out.law.tk)
                  have hnn : (((L).length : Int) != ((L).length : Int)) = false := by simp
                  go_wp2_with fail
                  refine KLN.out.mono ?_
                  rintro e w20 ⟨rfl, hb20⟩
                  have HE2 := Lib.hid (HE.out.keep HC.out hb20)
                  clear hb20
                  go_wp2
                  exact ⟨⟨i + 1, rfl, HLT.out, Lib.hid ⟨L, _, by have h := HE2.out; first | exact h | (simp only [List.length_append] at h ⊢; exact h)⟩⟩, by have := HLT.out; simp [intOf]; omega⟩
          · as_aux_lemma =>
              by_cases hR : s.R = true
              · have hR1 : sRight s.1 s.2.1 s.2.2 = true := hR
                rw [hR1]
                clear hR1
                by_cases hlv : levL L s = []
                · have HSB := Lib.hid (show setB L s = false from by unfold setB; rw [hR, hlv]; rfl)
                  have HST := Lib.hid (show setL L s x = L from by unfold setL; rw [if_neg (by rw [HSB.out]; decide)])
                  have hl0 : (levL L s).length = 0 := by rw [hlv]; rfl
                  rw [hl0]
                  clear hlv hl0 hR
                  go_wp2_with fail
                  go_region_held3 (fun w' => w'.cell? ⟨bx, 1, none⟩ = some (.int .i64 s.1) ∧ w'.cell? ⟨bx, 2, none⟩ = some (.int .i64 s.2.1) ∧ w'.cell? ⟨bx, 3, none⟩ = some (.int .i64 s.2.2) ∧ w'.cell? ⟨bx, 4, none⟩ = some (.int .i64 x))
                    (first | exact ⟨t1, t2, t3, t4⟩ | (go_split_ands; with_reducible exact ⟨keepc hb (by assumption), keepc hb (by assumption), keepc hb (by assumption), keepc hb (by assumption)⟩) | exact ⟨c1, c2, c3, c4⟩ | go_keep)
                    (first
                      | (go_at_call 11; refine (of7_c _ _ _ _).mono ?_; rintro e w7 ⟨rfl, hb⟩; have H7 := Lib.hid (H6.out.keep HC.out (belowT (by repeat (first | with_reducible exact Below.refl _ _ | with_reducible refine Below.drew ?_ | with_reducible refine belowN ?_ _)) hb)); have H7S := Lib.hid (Nat.le_trans H6S.out (belowT (by repeat (first | with_reducible exact Below.refl _ _ | with_reducible refine Below.drew ?_ | with_reducible refine belowN ?_ _)) hb).size))
                      | (go_at_call 19; refine (HC.out.set s x H7.out.law.tk HS.out.1 HS.out.2).mono ?_; rintro e w9 ⟨rfl, F2, hT9, hw9, hl9⟩; rw [HSB.out]; have H97 := Lib.hid hl9.size; have H9 := Lib.hid (H7.out.turn hT9 hw9 hl9); obtain ⟨t0, t1, t2, t3, t4⟩ := cells5 H9.out.box; clear hb hT9 hw9 hl9))
                  all_goals
                    clear c0 c1 c2 c3 c4 t0 t1 t2 t3 t4
                    have HE : Hid (PlI Tk w b k L F2 (.slice p L.length cp) w9) := Lib.hid ⟨by have h := H9.out.law; rwa [HST.out] at h, H9.out.row, H9.out.ap⟩
                    have KLN := Lib.hid (HC.out.len HE.out.law.tk)
                    have hnn : (((L).length : Int) != ((L).length : Int)) = false := by simp
                    go_wp2_with fail
                    refine KLN.out.mono ?_
                    rintro e w20 ⟨rfl, hb20⟩
                    have HE2 := Lib.hid (HE.out.keep HC.out hb20)
                    clear hb20
                    go_wp2
                    exact ⟨⟨i + 1, rfl, HLT.out, Lib.hid ⟨L, _, by have h := HE2.out; first | exact h | (simp only [List.length_append] at h ⊢; exact h)⟩⟩, by have := HLT.out; simp [intOf]; omega⟩
                · have HSB := Lib.hid (show setB L s = true from by unfold setB; rw [hR]; cases hq : levL L s with | nil => exact absurd hq hlv | cons _ _ => rfl)
                  have HST := Lib.hid (show setL L s x = (lessL L s ++ [(s, x)]) ++ moreL L s from by unfold setL; rw [if_pos HSB.out, List.append_assoc]; rfl)
                  have hpos : 0 < (levL L s).length := List.length_pos_iff.2 hlv
                  have hp1 : decide (((levL L s).length : Int) > 0) = true := decide_eq_true (by omega)
                  have hp2 : decide (0 < (levL L s).length) = true := decide_eq_true hpos
                  clear hlv hpos hR
                  go_wp2_with fail
                  go_region_held3 (fun w' => w'.cell? ⟨bx, 1, none⟩ = some (.int .i64 s.1) ∧ w'.cell? ⟨bx, 2, none⟩ = some (.int .i64 s.2.1) ∧ w'.cell? ⟨bx, 3, none⟩ = some (.int .i64 s.2.2) ∧ w'.cell? ⟨bx, 4, none⟩ = some (.int .i64 x))
                    (first | exact ⟨t1, t2, t3, t4⟩ | (go_split_ands; with_reducible exact ⟨keepc hb (by assumption), keepc hb (by assumption), keepc hb (by assumption), keepc hb (by assumption)⟩) | exact ⟨c1, c2, c3, c4⟩ | go_keep)
                    (first
                      | (go_at_call 11; refine (of7_c _ _ _ _).mono ?_; rintro e w7 ⟨rfl, hb⟩; have H7 := Lib.hid (H6.out.keep HC.out (belowT (by repeat (first | with_reducible exact Below.refl _ _ | with_reducible refine Below.drew ?_ | with_reducible refine belowN ?_ _)) hb)); have H7S := Lib.hid (Nat.le_trans H6S.out (belowT (by repeat (first | with_reducible exact Below.refl _ _ | with_reducible refine Below.drew ?_ | with_reducible refine belowN ?_ _)) hb).size))
                      | (go_at_call 19; refine (HC.out.set s x H7.out.law.tk HS.out.1 HS.out.2).mono ?_; rintro e w9 ⟨rfl, F2, hT9, hw9, hl9⟩; rw [HSB.out]; have H97 := Lib.hid hl9.size; have H9 := Lib.hid (H7.out.turn hT9 hw9 hl9); obtain ⟨t0, t1, t2, t3, t4⟩ := cells5 H9.out.box; clear hb hT9 hw9 hl9))
                  all_goals
                    clear c0 c1 c2 c3 c4
                    have hba : Below w9.heap.size w9 (w9.alloc (.cells #[.int .i64 s.1, .int .i64 s.2.1, .int .i64 s.2.2, .int .i64 x] 52)) := bA' (Below.refl _ w9) (Nat.le_refl _) _
                    have hsz9 : V0.heap.size ≤ w9.heap.size := by
                      have h1 := H7S.out
                      have h2 := H97.out
                      omega
                    have hnewf : FlatE (w9.alloc (.cells #[.int .i64 s.1, .int .i64 s.2.1, .int .i64 s.2.2, .int .i64 x] 52)) (some ⟨w9.heap.size, 0, none⟩) [(s, x)] := .inr ⟨w9.heap.size, 0, rfl, fun j u hu => by
                      have := World.ownsRow_lit (base := 0) (e := 52) (size := 4) w9 #[.int .i64 s.1, .int .i64 s.2.1, .int .i64 s.2.2, .int .i64 x] 1 (by omega) (by unfold maxLen; omega) rfl
                      have hc := this.cells (g := w9.heap.size) (by simp [Value.ownBlock]) j u (by simpa [cE] using hu)
                      rw [addE] at hc
                      exact hc⟩
                    obtain ⟨v1, V1, hr1, ho1, hg1, hl1⟩ := appendE (B := V0.heap.size) (v := .slice pa (lessL L s).length ca) (M := lessL L s) (L := [(s, x)]) 1 (w := w9.alloc (.cells #[.int .i64 s.1, .int .i64 s.2.1, .int .i64 s.2.2, .int .i64 x] 52)) (H9.out.r3.below hba).ra hnewf (Nat.le_trans hsz9 hba.size) (by have := HOK.out.2; have h1 : (lessL L s).length ≤ L.length := List.length_filter_le _ _; have h2 : (levL L s).length ≤ L.length := List.length_filter_le _ _; have h3 : (moreL L s).length ≤ L.length := List.length_filter_le _ _; simp; omega)
                    have hc1 : RowE V1 V0.heap.size (.slice pc (moreL L s).length cc) (moreL L s) := keep_row (H9.out.r3.below hba).rc hg1 H9.out.r3.ac
                    have hlw1 := law_app HC.out (H9.out.law.keep HC.out hba) (H9.out.r3.below hba).ra H9.out.aa H9.out.base hg1 hl1
                    obtain ⟨v2, V2, hr2, ho2, hg2, hl2⟩ := appendE (B := V0.heap.size) (v := v1) (M := lessL L s ++ [(s, x)]) (L := moreL L s) cc (w := V1) ho1 (by obtain ⟨p2, c2, he2, hf2⟩ := RowE.form hc1; obtain rfl : pc = p2 := (by simpa using (Value.slice.inj he2).1); exact hf2) (Nat.le_trans hsz9 (Nat.le_trans hba.size hg1.size)) (by have := HOK.out.2; have h1 : (lessL L s).length ≤ L.length := List.length_filter_le _ _; have h2 : (levL L s).length ≤ L.length := List.length_filter_le _ _; have h3 : (moreL L s).length ≤ L.length := List.length_filter_le _ _; simp; omega)
                    have hlw2 := law_app HC.out hlw1.1 ho1 hlw1.2 H9.out.base hg2 hl2
                    have HE : Hid (PlI Tk w b k ((lessL L s ++ [(s, x)]) ++ moreL L s) F2 v2 V2) := Lib.hid ⟨by have h := hlw2.1; rwa [HST.out] at h, ownsRow_low ho2 H9.out.base, hlw2.2⟩
                    obtain ⟨p1, c1, rfl, -⟩ := RowE.form ho1
                    obtain ⟨p2, c2, rfl, -⟩ := RowE.form HE.out.row
                    simp only [List.length_append, List.length_singleton] at hr1 hr2
                    clear hba hnewf hsz9 ho1 hg1 hl1 hc1 hlw1 ho2 hg2 hl2 hlw2
                    go_wp2_with (first
                      | (at_builtin; refine wpList_append_run rfl (.tmp 117) (.tmp 123) 35 rfl rfl rfl hr1 ?_)
                      | (at_builtin; refine wpList_append_run rfl (.tmp 124) (.tmp 125) 35 rfl rfl rfl hr2 ?_)
                      | (go_at_call 14; refine (HC.out.len HE.out.law.tk).mono ?_; rintro e w20 ⟨rfl, hb20⟩; have HE2 := Lib.hid (HE.out.keep HC.out hb20); clear hb20))
                    exact ⟨⟨i + 1, rfl, HLT.out, Lib.hid ⟨(lessL L s ++ [(s, x)]) ++ moreL L s, _, by have h := HE2.out; first | exact h | (simp only [List.length_append] at h ⊢; exact h) | simpa using h⟩⟩, by have := HLT.out; simp [intOf]; omega⟩
              · have hR1 : sRight s.1 s.2.1 s.2.2 = false := (Bool.eq_false_iff.2 hR)
                rw [hR1]
                clear hR1
                have HSB := Lib.hid (show setB L s = false from by unfold setB; rw [Bool.eq_false_iff.2 hR]; rfl)
                have HST := Lib.hid (show setL L s x = L from by unfold setL; rw [if_neg (by rw [HSB.out]; decide)])
                clear hR
                go_wp2_with fail
                go_region_held3 (fun w' => w'.cell? ⟨bx, 1, none⟩ = some (.int .i64 s.1) ∧ w'.cell? ⟨bx, 2, none⟩ = some (.int .i64 s.2.1) ∧ w'.cell? ⟨bx, 3, none⟩ = some (.int .i64 s.2.2) ∧ w'.cell? ⟨bx, 4, none⟩ = some (.int .i64 x))
                  (first | exact ⟨t1, t2, t3, t4⟩ | (go_split_ands; with_reducible exact ⟨keepc hb (by assumption), keepc hb (by assumption), keepc hb (by assumption), keepc hb (by assumption)⟩) | exact ⟨c1, c2, c3, c4⟩ | go_keep)
                  (first
                    | (go_at_call 11; refine (of7_c _ _ _ _).mono ?_; rintro e w7 ⟨rfl, hb⟩; have H7 := Lib.hid (H6.out.keep HC.out (belowT (by repeat (first | with_reducible exact Below.refl _ _ | with_reducible refine Below.drew ?_ | with_reducible refine belowN ?_ _)) hb)); have H7S := Lib.hid (Nat.le_trans H6S.out (belowT (by repeat (first | with_reducible exact Below.refl _ _ | with_reducible refine Below.drew ?_ | with_reducible refine belowN ?_ _)) hb).size))
                    | (go_at_call 19; refine (HC.out.set s x H7.out.law.tk HS.out.1 HS.out.2).mono ?_; rintro e w9 ⟨rfl, F2, hT9, hw9, hl9⟩; rw [HSB.out]; have H97 := Lib.hid hl9.size; have H9 := Lib.hid (H7.out.turn hT9 hw9 hl9); obtain ⟨t0, t1, t2, t3, t4⟩ := cells5 H9.out.box; clear hb hT9 hw9 hl9))
                all_goals
                  clear c0 c1 c2 c3 c4 t0 t1 t2 t3 t4
                  have HE : Hid (PlI Tk w b k L F2 (.slice p L.length cp) w9) := Lib.hid ⟨by have h := H9.out.law; rwa [HST.out] at h, H9.out.row, H9.out.ap⟩
                  have KLN := Lib.hid (HC.out.len HE.out.law.tk)
                  have hnn : (((L).length : Int) != ((L).length : Int)) = false := by simp
                  go_wp2_with fail
                  refine KLN.out.mono ?_
                  rintro e w20 ⟨rfl, hb20⟩
                  have HE2 := Lib.hid (HE.out.keep HC.out hb20)
                  clear hb20
                  go_wp2
                  exact ⟨⟨i + 1, rfl, HLT.out, Lib.hid ⟨L, _, by have h := HE2.out; first | exact h | (simp only [List.length_append] at h ⊢; exact h)⟩⟩, by have := HLT.out; simp [intOf]; omega⟩
          · as_aux_lemma =>
              by_cases hR : s.R = true
              · have hR1 : sRight s.1 s.2.1 s.2.2 = true := hR
                rw [hR1]
                clear hR1
                by_cases hun : upL L s = []
                · have HAB := Lib.hid (show atB L s = false from by unfold atB; rw [hR, hun]; rfl)
                  go_wp2_with fail
                  clear c0 c1 c2 c3 c4
                  refine (of7_c _ _ _ _).mono ?_
                  rintro e w7 ⟨rfl, hb⟩
                  have H7 := Lib.hid (H6.out.keep HC.out hb)
                  have H7S := Lib.hid (Nat.le_trans H6S.out hb.size)
                  clear hb
                  have KAT := Lib.hid (HC.out.at_ s H7.out.law.tk HS.out.1)
                  obtain ⟨⟨⟨at1, at2, at3⟩, aty⟩, hat⟩ : ∃ z, atE L s = z := ⟨_, rfl⟩
                  rw [hat] at KAT
                  dsimp only at KAT
                  rw [HAB.out] at KAT
                  replace KAT := Lib.hid KAT.out
                  have HAT := Lib.hid hat
                  clear hat
                  go_wp2_with fail
                  refine KAT.out.mono ?_
                  rintro e w9 ⟨rfl, hb9⟩
                  have hbv9 : Below w9.heap.size w9 (w9.alloc (.cells #[.int .i64 at1, .int .i64 at2, .int .i64 at3] 33)) := bA' (Below.refl _ _) (Nat.le_refl _) _
                  have hbs9 : (w9.alloc (.cells #[.int .i64 at1, .int .i64 at2, .int .i64 at3] 33)).heap[w9.heap.size]? = some (.cells #[.int .i64 at1, .int .i64 at2, .int .i64 at3] 33 (0, 0)) := World.alloc_heap_new w9 _
                  have h9 := (H7.out.keep HC.out hb9).keep HC.out hbv9
                  have hsz9 : V0.heap.size ≤ (w9.alloc (.cells #[.int .i64 at1, .int .i64 at2, .int .i64 at3] 33)).heap.size := Nat.le_trans H7S.out (Nat.le_trans hb9.size hbv9.size)
                  obtain ⟨v1, V1, hr1, ho1, hg1, hl1⟩ := appendE (B := V0.heap.size) (v := .slice pa (lessL L s).length ca) (M := lessL L s) (L := levL L s) cb (w := (w9.alloc (.cells #[.int .i64 at1, .int .i64 at2, .int .i64 at3] 33))) h9.r3.ra (by obtain ⟨p2, c2, he2, hf2⟩ := RowE.form h9.r3.rb; obtain rfl : pb = p2 := (by simpa using (Value.slice.inj he2).1); exact hf2) hsz9 (by have := HOK.out.2; have h1 : (lessL L s).length ≤ L.length := List.length_filter_le _ _; have h2 : (levL L s).length ≤ L.length := List.length_filter_le _ _; have h3 : (moreL L s).length ≤ L.length := List.length_filter_le _ _; simp; omega)
                  have hlw1 := law_app HC.out h9.law h9.r3.ra h9.aa h9.base hg1 hl1
                  have hm1 : RowE V1 w.heap.size (.slice p L.length cp) L := keep_row h9.row hg1 (fun g e1 e2 => by
                    have h1 := (h9.r3.ra.lt g e1).1
                    have h2 := HMV.out g e2
                    omega)
                  have hbs1 : V1.heap[w9.heap.size]? = some (.cells #[.int .i64 at1, .int .i64 at2, .int .i64 at3] 33 (0, 0)) := (hg1.block w9.heap.size (Array.getElem?_eq_some_iff.1 hbs9).1 (fun e => by
                    have h1 := h9.r3.ra
                    obtain ⟨cur, hcur⟩ := ownsRow_cells h1 e.symm
                    have := hbs9.symm.trans hcur
                    simp at this)).trans hbs9
                  have HE : Hid (PlI Tk w b k L F (.slice p L.length cp) V1) := Lib.hid ⟨hlw1.1, hm1, h9.ap⟩
                  have HB1 := Lib.hid (And.intro hbs1 ho1)
                  obtain ⟨p1, c1', rfl, hf1⟩ := RowE.form ho1
                  obtain ⟨b0, b1, b2⟩ := cells3 hbs1 (Below.refl _ _)
                  clear hbv9 hbs9 h9 hsz9 ho1 hg1 hl1 hlw1 hm1 hbs1 hb9 KAT
                  have hz := HAT.out
                  unfold atE at hz
                  rw [if_neg (by rw [HAB.out]; decide)] at hz
                  obtain ⟨hz1, rfl⟩ := Prod.mk.inj hz
                  obtain ⟨rfl, hz2⟩ := Prod.mk.inj hz1
                  obtain ⟨rfl, rfl⟩ := Prod.mk.inj hz2
                  have heq := eqP 0 0 0 0 0 0
                  have hUe : lessL L s ++ levL L s = [] := hun
                  rw [hUe] at hr1
                  have hU0 : decide ((([] : List En).length : Int) > 0) = false := rfl
                  clear hUe hun hU0
                  clear hz hz1 hz2 hf1 hR
                  have KLN := Lib.hid (HC.out.len HE.out.law.tk)
                  have hnn : ((L.length : Int) != (L.length : Int)) = false := by simp
                  go_wp2_with (first
                    | (at_builtin; refine wpList_append_run rfl (.tmp 138) (.tmp 139) 35 rfl rfl rfl hr1 ?_)
                    | (go_at_call 14; refine KLN.out.mono ?_; rintro e w20 ⟨rfl, hb20⟩; have HE2 := Lib.hid (HE.out.keep HC.out hb20); clear hb20))
                  exact ⟨⟨i + 1, rfl, HLT.out, Lib.hid ⟨L, _, HE2.out⟩⟩, by have := HLT.out; simp [intOf]; omega⟩
                · have HAB := Lib.hid (show atB L s = true from by unfold atB; rw [hR]; cases hq : upL L s with | nil => exact absurd hq hun | cons _ _ => rfl)
                  go_wp2_with fail
                  clear c0 c1 c2 c3 c4
                  refine (of7_c _ _ _ _).mono ?_
                  rintro e w7 ⟨rfl, hb⟩
                  have H7 := Lib.hid (H6.out.keep HC.out hb)
                  have H7S := Lib.hid (Nat.le_trans H6S.out hb.size)
                  clear hb
                  have KAT := Lib.hid (HC.out.at_ s H7.out.law.tk HS.out.1)
                  obtain ⟨⟨⟨at1, at2, at3⟩, aty⟩, hat⟩ : ∃ z, atE L s = z := ⟨_, rfl⟩
                  rw [hat] at KAT
                  dsimp only at KAT
                  rw [HAB.out] at KAT
                  replace KAT := Lib.hid KAT.out
                  have HAT := Lib.hid hat
                  clear hat
                  go_wp2_with fail
                  refine KAT.out.mono ?_
                  rintro e w9 ⟨rfl, hb9⟩
                  have hbv9 : Below w9.heap.size w9 (w9.alloc (.cells #[.int .i64 at1, .int .i64 at2, .int .i64 at3] 33)) := bA' (Below.refl _ _) (Nat.le_refl _) _
                  have hbs9 : (w9.alloc (.cells #[.int .i64 at1, .int .i64 at2, .int .i64 at3] 33)).heap[w9.heap.size]? = some (.cells #[.int .i64 at1, .int .i64 at2, .int .i64 at3] 33 (0, 0)) := World.alloc_heap_new w9 _
                  have h9 := (H7.out.keep HC.out hb9).keep HC.out hbv9
                  have hsz9 : V0.heap.size ≤ (w9.alloc (.cells #[.int .i64 at1, .int .i64 at2, .int .i64 at3] 33)).heap.size := Nat.le_trans H7S.out (Nat.le_trans hb9.size hbv9.size)
                  obtain ⟨v1, V1, hr1, ho1, hg1, hl1⟩ := appendE (B := V0.heap.size) (v := .slice pa (lessL L s).length ca) (M := lessL L s) (L := levL L s) cb (w := (w9.alloc (.cells #[.int .i64 at1, .int .i64 at2, .int .i64 at3] 33))) h9.r3.ra (by obtain ⟨p2, c2, he2, hf2⟩ := RowE.form h9.r3.rb; obtain rfl : pb = p2 := (by simpa using (Value.slice.inj he2).1); exact hf2) hsz9 (by have := HOK.out.2; have h1 : (lessL L s).length ≤ L.length := List.length_filter_le _ _; have h2 : (levL L s).length ≤ L.length := List.length_filter_le _ _; have h3 : (moreL L s).length ≤ L.length := List.length_filter_le _ _; simp; omega)
                  have hlw1 := law_app HC.out h9.law h9.r3.ra h9.aa h9.base hg1 hl1
                  have hm1 : RowE V1 w.heap.size (.slice p L.length cp) L := keep_row h9.row hg1 (fun g e1 e2 => by
                    have h1 := (h9.r3.ra.lt g e1).1
                    have h2 := HMV.out g e2
                    omega)
                  have hbs1 : V1.heap[w9.heap.size]? = some (.cells #[.int .i64 at1, .int .i64 at2, .int .i64 at3] 33 (0, 0)) := (hg1.block w9.heap.size (Array.getElem?_eq_some_iff.1 hbs9).1 (fun e => by
                    have h1 := h9.r3.ra
                    obtain ⟨cur, hcur⟩ := ownsRow_cells h1 e.symm
                    have := hbs9.symm.trans hcur
                    simp at this)).trans hbs9
                  have HE : Hid (PlI Tk w b k L F (.slice p L.length cp) V1) := Lib.hid ⟨hlw1.1, hm1, h9.ap⟩
                  have HB1 := Lib.hid (And.intro hbs1 ho1)
                  obtain ⟨p1, c1', rfl, hf1⟩ := RowE.form ho1
                  obtain ⟨b0, b1, b2⟩ := cells3 hbs1 (Below.refl _ _)
                  clear hbv9 hbs9 h9 hsz9 ho1 hg1 hl1 hlw1 hm1 hbs1 hb9 KAT
                  have hup : upL L s = lessL L s ++ levL L s := rfl
                  obtain ⟨U, hU⟩ : ∃ U, lessL L s ++ levL L s = U := ⟨_, rfl⟩
                  rw [hU] at hr1 hf1 hup
                  have hla := HAT.out
                  unfold atE at hla
                  rw [if_pos HAB.out, hup] at hla
                  have hU0 : U ≠ [] := by rw [← hup]; exact hun
                  have hlast : U[U.length - 1]? = some (((at1, at2, at3), aty) : En) := by
                    rw [← hla]
                    exact lastD_at hU0 _
                  obtain ⟨m, hm⟩ : ∃ m, U.length - 1 = m := ⟨_, rfl⟩
                  have hUp : 0 < U.length := List.length_pos_iff.2 hU0
                  rw [hm] at hlast
                  have hUl : U.length ≤ 4000000 := by
                    have := HOK.out.2
                    have h1 : (lessL L s).length ≤ L.length := List.length_filter_le _ _
                    have h2 : (levL L s).length ≤ L.length := List.length_filter_le _ _
                    rw [← hU, List.length_append]
                    omega
                  obtain ⟨g5, off5, rfl, u0, u1, u2, u3⟩ := FlatE.in hf1 m _ hlast
                  dsimp only at u0 u1 u2 u3
                  have hp1 : decide ((U.length : Int) > 0) = true := decide_eq_true (by omega)
                  have hp2 : decide (0 < U.length) = true := decide_eq_true hUp
                  have hsub : IntKind.i64.wrap ((U.length : Int) - 1) = (m : Int) := by rw [IntKind.wrap_i64] <;> omega
                  have hm0 : (0 : Int) ≤ (m : Int) := by omega
                  have hml : (m : Int) < (U.length : Int) := by omega
                  have heq := eqP at1 at2 at3 at1 at2 at3
                  rw [decide_eq_true (show at1 = at1 ∧ at2 = at2 ∧ at3 = at3 from ⟨rfl, rfl, rfl⟩)] at heq
                  have hyy : (aty == aty) = true := by simp
                  have HUU := Lib.hid (And.intro hUp hun)
                  clear hup hU hla hU0 hlast hm hUp hUl hf1 hun hR
                  go_wp2_with (first | (at_builtin; refine wpList_append_run rfl (.tmp 138) (.tmp 139) 35 rfl rfl rfl hr1 ?_))
                  go_region_held3 (fun w' => w'.cell? ⟨w9.heap.size, 0, none⟩ = some (.int .i64 at1) ∧ w'.cell? ⟨w9.heap.size, 1, none⟩ = some (.int .i64 at2) ∧ w'.cell? ⟨w9.heap.size, 2, none⟩ = some (.int .i64 at3) ∧ w'.cell? ⟨g5, off5 + m * 4, none⟩ = some (.int .i64 at1) ∧ w'.cell? ⟨g5, off5 + m * 4 + 1, none⟩ = some (.int .i64 at2) ∧ w'.cell? ⟨g5, off5 + m * 4 + 2, none⟩ = some (.int .i64 at3) ∧ w'.cell? ⟨g5, off5 + m * 4 + 3, none⟩ = some (.int .i64 aty) ∧ Below V1.heap.size V1 w')
                    (first | (go_split_ands; with_reducible exact ⟨keepc hb (by assumption), keepc hb (by assumption), keepc hb (by assumption), keepc hb (by assumption), keepc hb (by assumption), keepc hb (by assumption), keepc hb (by assumption), belowT (by assumption) hb⟩) | exact ⟨b0, b1, b2, u0, u1, u2, u3, Below.drew (Below.refl _ V1)⟩ | go_keep)
                    (first | (go_at_call 11; refine (of7_c _ _ _ _).mono ?_; rintro e w19 ⟨rfl, hb⟩))
                  all_goals go_split_ands
                  all_goals
                    have HEb := Lib.hid (HE.out.keep HC.out (show Below V1.heap.size V1 w19 from by with_reducible assumption))
                    clear b0 b1 b2 u0 u1 u2 u3
                    clear HE
                    have HE := HEb
                    have KLN := Lib.hid (HC.out.len HE.out.law.tk)
                    have hnn : (((L).length : Int) != ((L).length : Int)) = false := by simp
                    go_wp2_with fail
                    refine KLN.out.mono ?_
                    rintro e w20 ⟨rfl, hb20⟩
                    have HE2 := Lib.hid (HE.out.keep HC.out hb20)
                    clear hb20
                    go_wp2
                    exact ⟨⟨i + 1, rfl, HLT.out, Lib.hid ⟨L, _, by have h := HE2.out; first | exact h | (simp only [List.length_append] at h ⊢; exact h)⟩⟩, by have := HLT.out; simp [intOf]; omega⟩
              · have hR1 : sRight s.1 s.2.1 s.2.2 = false := (Bool.eq_false_iff.2 hR)
                rw [hR1]
                clear hR1
                have HAB := Lib.hid (show atB L s = false from by unfold atB; rw [Bool.eq_false_iff.2 hR]; rfl)
                go_wp2_with fail
                clear c0 c1 c2 c3 c4
                refine (of7_c _ _ _ _).mono ?_
                rintro e w7 ⟨rfl, hb⟩
                have H7 := Lib.hid (H6.out.keep HC.out hb)
                have H7S := Lib.hid (Nat.le_trans H6S.out hb.size)
                clear hb
                have KAT := Lib.hid (HC.out.at_ s H7.out.law.tk HS.out.1)
                obtain ⟨⟨⟨at1, at2, at3⟩, aty⟩, hat⟩ : ∃ z, atE L s = z := ⟨_, rfl⟩
                rw [hat] at KAT
                dsimp only at KAT
                rw [HAB.out] at KAT
                replace KAT := Lib.hid KAT.out
                have HAT := Lib.hid hat
                clear hat
                go_wp2_with fail
                refine KAT.out.mono ?_
                rintro e w9 ⟨rfl, hb9⟩
                have hbv9 : Below w9.heap.size w9 (w9.alloc (.cells #[.int .i64 at1, .int .i64 at2, .int .i64 at3] 33)) := bA' (Below.refl _ _) (Nat.le_refl _) _
                have hbs9 : (w9.alloc (.cells #[.int .i64 at1, .int .i64 at2, .int .i64 at3] 33)).heap[w9.heap.size]? = some (.cells #[.int .i64 at1, .int .i64 at2, .int .i64 at3] 33 (0, 0)) := World.alloc_heap_new w9 _
                have h9 := (H7.out.keep HC.out hb9).keep HC.out hbv9
                have hsz9 : V0.heap.size ≤ (w9.alloc (.cells #[.int .i64 at1, .int .i64 at2, .int .i64 at3] 33)).heap.size := Nat.le_trans H7S.out (Nat.le_trans hb9.size hbv9.size)
                obtain ⟨v1, V1, hr1, ho1, hg1, hl1⟩ := appendE (B := V0.heap.size) (v := .slice pa (lessL L s).length ca) (M := lessL L s) (L := levL L s) cb (w := (w9.alloc (.cells #[.int .i64 at1, .int .i64 at2, .int .i64 at3] 33))) h9.r3.ra (by obtain ⟨p2, c2, he2, hf2⟩ := RowE.form h9.r3.rb; obtain rfl : pb = p2 := (by simpa using (Value.slice.inj he2).1); exact hf2) hsz9 (by have := HOK.out.2; have h1 : (lessL L s).length ≤ L.length := List.length_filter_le _ _; have h2 : (levL L s).length ≤ L.length := List.length_filter_le _ _; have h3 : (moreL L s).length ≤ L.length := List.length_filter_le _ _; simp; omega)
                have hlw1 := law_app HC.out h9.law h9.r3.ra h9.aa h9.base hg1 hl1
                have hm1 : RowE V1 w.heap.size (.slice p L.length cp) L := keep_row h9.row hg1 (fun g e1 e2 => by
                  have h1 := (h9.r3.ra.lt g e1).1
                  have h2 := HMV.out g e2
                  omega)
                have hbs1 : V1.heap[w9.heap.size]? = some (.cells #[.int .i64 at1, .int .i64 at2, .int .i64 at3] 33 (0, 0)) := (hg1.block w9.heap.size (Array.getElem?_eq_some_iff.1 hbs9).1 (fun e => by
                  have h1 := h9.r3.ra
                  obtain ⟨cur, hcur⟩ := ownsRow_cells h1 e.symm
                  have := hbs9.symm.trans hcur
                  simp at this)).trans hbs9
                have HE : Hid (PlI Tk w b k L F (.slice p L.length cp) V1) := Lib.hid ⟨hlw1.1, hm1, h9.ap⟩
                have HB1 := Lib.hid (And.intro hbs1 ho1)
                obtain ⟨p1, c1', rfl, hf1⟩ := RowE.form ho1
                obtain ⟨b0, b1, b2⟩ := cells3 hbs1 (Below.refl _ _)
                clear hbv9 hbs9 h9 hsz9 ho1 hg1 hl1 hlw1 hm1 hbs1 hb9 KAT
                have hz := HAT.out
                unfold atE at hz
                rw [if_neg (by rw [HAB.out]; decide)] at hz
                obtain ⟨hz1, rfl⟩ := Prod.mk.inj hz
                obtain ⟨rfl, hz2⟩ := Prod.mk.inj hz1
                obtain ⟨rfl, rfl⟩ := Prod.mk.inj hz2
                have heq := eqP 0 0 0 0 0 0
                clear hz hz1 hz2 hf1 hR
                have KLN := Lib.hid (HC.out.len HE.out.law.tk)
                have hnn : ((L.length : Int) != (L.length : Int)) = false := by simp
                go_wp2_with (first
                  | (at_builtin; refine wpList_append_run rfl (.tmp 138) (.tmp 139) 35 rfl rfl rfl hr1 ?_)
                  | (go_at_call 14; refine KLN.out.mono ?_; rintro e w20 ⟨rfl, hb20⟩; have HE2 := Lib.hid (HE.out.keep HC.out hb20); clear hb20))
                exact ⟨⟨i + 1, rfl, HLT.out, Lib.hid ⟨L, _, HE2.out⟩⟩, by have := HLT.out; simp [intOf]; omega⟩
          · as_aux_lemma =>
              by_cases hR : s.R = true
              · have hR1 : sRight s.1 s.2.1 s.2.2 = true := hR
                rw [hR1]
                clear hR1
                go_wp2_with fail
                clear c0 c1 c2 c3 c4
                refine (of7_c _ _ _ _).mono ?_
                rintro e w7 ⟨rfl, hb⟩
                have H7 := Lib.hid (H6.out.keep HC.out hb)
                have H7S := Lib.hid (Nat.le_trans H6S.out hb.size)
                clear hb
                have KB := Lib.hid (HC.out.back s H7.out.law.tk HS.out.1)
                go_wp2_with fail
                refine KB.out.mono ?_
                rintro e w9 ⟨pg, cg, F2, rfl, hgl, hgn, hT9, hw9, hl9⟩
                have H9 := Lib.hid (H7.out.turn hT9 hw9 hl9)
                have H9S := Lib.hid (Nat.le_trans H7S.out hl9.size)
                have HG := Lib.hid hgl
                clear hgl hgn hT9 hw9 hl9 KB
                have hXX := Lib.hid (show (backX L s) = (moreL L s).reverse.map (·.2) from by unfold backX; rw [if_pos hR])
                have HLL := Lib.hid (show backL L s = lessL L s ++ levL L s from by unfold backL; rw [if_pos hR])
                obtain ⟨nx, hnx⟩ : ∃ n, (moreL L s).length = n := ⟨_, rfl⟩
                have hnX : (backX L s).length = nx := by rw [hXX.out]; simp [hnx]
                obtain ⟨X, hX⟩ : ∃ X, (backX L s) = X := ⟨_, rfl⟩
                rw [hX] at HG hnX ⊢
                rw [hnX, hnx]
                have hX2 := hXX.out
                rw [hX] at hX2
                have HXL := Lib.hid (And.intro hX2 (And.intro hnX (And.intro hnx (show nx ≤ 1048576 from by have := HOK.out.2; have h3 : (moreL L s).length ≤ L.length := List.length_filter_le _ _; omega))))
                have hee : ((nx : Int) == (nx : Int)) = true := by simp
                clear hR hnX hX hX2 hnx hXX
                go_wp2
                go_loopw [14, 23] (fun ov kv wr => ∃ z : Nat, ov = .bool true ∧ kv = .int .i64 (z : Int) ∧ z ≤ nx ∧ Hid (Below w9.heap.size w9 wr)) (fun _ v _ => nx - (intOf v).toNat)
                case atStart => exact ⟨0, rfl, rfl, Nat.zero_le _, Lib.hid (Below.refl _ _)⟩
                case round =>
                  obtain ⟨z, rfl, rfl, hz, HZ⟩ := hrel
                  by_cases hzl : z < nx
                  · have hzz : (z : Int) < (nx : Int) := by omega
                    have hz0 : (0 : Int) ≤ (z : Int) := by omega
                    have hrz : IntKind.i64.wrap ((z : Int) + 1) = ((z + 1 : Nat) : Int) := by rw [IntKind.wrap_i64]; have := HXL.out.2.2.2; omega
                    obtain ⟨f, hf⟩ : ∃ f, nx - 1 - z = f := ⟨_, rfl⟩
                    obtain ⟨en, hen⟩ : ∃ en, (moreL L s)[f]? = some en := ⟨_, List.getElem?_eq_getElem (by have := HXL.out.2.2.1; omega)⟩
                    have hxz : X[z]? = some en.2 := by rw [HXL.out.1, List.getElem?_map, List.getElem?_reverse (by have := HXL.out.2.2.1; omega), HXL.out.2.2.1, hf, hen]; rfl
                    have hpf : FlatE wr pc (moreL L s) := (by obtain ⟨p2, c2, he2, hf2⟩ := RowE.form (H9.out.r3.below HZ.out).rc; obtain rfl : pc = p2 := (by simpa using (Value.slice.inj he2).1); exact hf2)
                    obtain ⟨g2, off2, rfl, a0, a1, a2, a3⟩ := FlatE.in hpf f en hen
                    have hs1 : IntKind.i64.wrap ((nx : Int) - 1) = (nx : Int) - 1 := by have := HXL.out.2.2.2; rw [IntKind.wrap_i64] <;> omega
                    have hs2 : IntKind.i64.wrap ((nx : Int) - 1 - (z : Int)) = (f : Int) := by have := HXL.out.2.2.2; rw [IntKind.wrap_i64] <;> omega
                    have hf0 : (0 : Int) ≤ (f : Int) := by omega
                    have hfn : (f : Int) < (nx : Int) := by omega
                    obtain ⟨g3, off3, rfl, r0⟩ := numAt (HG.out.below HZ.out) hxz
                    obtain ⟨yv, hyv⟩ : ∃ y, en.2 = y := ⟨_, rfl⟩
                    rw [hyv] at a3 r0
                    have hyy : (yv == yv) = true := by simp
                    have HZL := Lib.hid hzl
                    clear hen hxz hpf a0 a1 a2 hyv hz hzl hf
                    go_wp2_with fail
                    go_quiet (fail)
                    have HZ2 := Lib.hid (show Below w9.heap.size w9 (wr.drewN nq) from belowT HZ.out (belowN (Below.refl _ _) _))
                    clear a3 r0
                    go_wp2
                    exact ⟨⟨z + 1, rfl, rfl, HZL.out, HZ2⟩, by have := HZL.out; simp [intOf]; omega⟩
                  · obtain rfl : z = nx := by omega
                    have hzz : ¬ ((z : Int) < (z : Int)) := by omega
                    have hr9 := H9.out.r3.below HZ.out
                    have hlw := H9.out.law.keep HC.out HZ.out
                    have hszr : V0.heap.size ≤ wr.heap.size := Nat.le_trans H9S.out HZ.out.size
                    obtain ⟨v1, V1, hr1, ho1, hg1, hl1⟩ := appendE (B := V0.heap.size) (v := .slice pa (lessL L s).length ca) (M := lessL L s) (L := levL L s) cb (w := wr) hr9.ra (by obtain ⟨p2, c2, he2, hf2⟩ := RowE.form hr9.rb; obtain rfl : pb = p2 := (by simpa using (Value.slice.inj he2).1); exact hf2) hszr (by have := HOK.out.2; have h1 : (lessL L s).length ≤ L.length := List.length_filter_le _ _; have h2 : (levL L s).length ≤ L.length := List.length_filter_le _ _; have h3 : (moreL L s).length ≤ L.length := List.length_filter_le _ _; simp; omega)
                    have hlw1 := law_app HC.out hlw hr9.ra H9.out.aa H9.out.base hg1 hl1
                    have HE : Hid (PlI Tk w b k (lessL L s ++ levL L s) F2 v1 V1) := Lib.hid ⟨by have h := hlw1.1; rwa [HLL.out] at h, ownsRow_low ho1 H9.out.base, hlw1.2⟩
                    obtain ⟨p1, c1, rfl, -⟩ := RowE.form HE.out.row
                    clear hr9 hlw hszr ho1 hg1 hl1 hlw1 hz hzl
                    have hnn : (((lessL L s ++ levL L s).length : Int) != ((lessL L s ++ levL L s).length : Int)) = false := by simp
                    go_wp2_with (first
                      | (at_builtin; refine wpList_append_run rfl (.tmp 222) (.tmp 223) 35 rfl rfl rfl hr1 ?_)
                      | (go_at_call 14; refine (HC.out.len HE.out.law.tk).mono ?_; rintro e w20 ⟨rfl, hb20⟩; have HE2 := Lib.hid (HE.out.keep HC.out hb20); clear hb20))
                    exact ⟨⟨i + 1, rfl, HLT.out, Lib.hid ⟨lessL L s ++ levL L s, _, by have h := HE2.out; first | exact h | (simp only [List.length_append] at h ⊢; exact h) | simpa using h⟩⟩, by have := HLT.out; simp [intOf]; omega⟩
              · have hR1 : sRight s.1 s.2.1 s.2.2 = false := (Bool.eq_false_iff.2 hR)
                rw [hR1]
                clear hR1
                go_wp2_with fail
                clear c0 c1 c2 c3 c4
                refine (of7_c _ _ _ _).mono ?_
                rintro e w7 ⟨rfl, hb⟩
                have H7 := Lib.hid (H6.out.keep HC.out hb)
                have H7S := Lib.hid (Nat.le_trans H6S.out hb.size)
                clear hb
                have KB := Lib.hid (HC.out.back s H7.out.law.tk HS.out.1)
                go_wp2_with fail
                refine KB.out.mono ?_
                rintro e w9 ⟨pg, cg, F2, rfl, hgl, hgn, hT9, hw9, hl9⟩
                have H9 := Lib.hid (H7.out.turn hT9 hw9 hl9)
                have H9S := Lib.hid (Nat.le_trans H7S.out hl9.size)
                have HG := Lib.hid hgl
                clear hgl hgn hT9 hw9 hl9 KB
                have hX0 : (backX L s) = [] := by unfold backX; rw [if_neg hR]
                have HLL := Lib.hid (show backL L s = L from by unfold backL; rw [if_neg hR])
                rw [hX0]
                clear hX0 hR
                have HE : Hid (PlI Tk w b k L F2 (.slice p L.length cp) w9) := Lib.hid ⟨by have h := H9.out.law; rwa [HLL.out] at h, H9.out.row, H9.out.ap⟩
                have KLN := Lib.hid (HC.out.len HE.out.law.tk)
                have hnn : (((L).length : Int) != ((L).length : Int)) = false := by simp
                go_wp2_with fail
                refine KLN.out.mono ?_
                rintro e w20 ⟨rfl, hb20⟩
                have HE2 := Lib.hid (HE.out.keep HC.out hb20)
                clear hb20
                go_wp2
                exact ⟨⟨i + 1, rfl, HLT.out, Lib.hid ⟨L, _, by have h := HE2.out; first | exact h | (simp only [List.length_append] at h ⊢; exact h)⟩⟩, by have := HLT.out; simp [intOf]; omega⟩
          · as_aux_lemma =>
              by_cases hR : s.R = true
              · have hR1 : sRight s.1 s.2.1 s.2.2 = true := hR
                rw [hR1]
                clear hR1
                go_wp2_with fail
                clear c0 c1 c2 c3 c4
                refine (of7_c _ _ _ _).mono ?_
                rintro e w7 ⟨rfl, hb⟩
                have H7 := Lib.hid (H6.out.keep HC.out hb)
                have H7S := Lib.hid (Nat.le_trans H6S.out hb.size)
                clear hb
                have KB := Lib.hid (HC.out.free s H7.out.law.tk HS.out.1)
                go_wp2_with fail
                refine KB.out.mono ?_
                rintro e w9 ⟨pg, cg, F2, rfl, hgl, hgn, hT9, hw9, hl9⟩
                have H9 := Lib.hid (H7.out.turn hT9 hw9 hl9)
                have H9S := Lib.hid (Nat.le_trans H7S.out hl9.size)
                have HG := Lib.hid hgl
                clear hgl hgn hT9 hw9 hl9 KB
                have hXX := Lib.hid (show (freeX L s) = (lessL L s).map (·.2) from by unfold freeX; rw [if_pos hR])
                have HLL := Lib.hid (show freeL L s = levL L s ++ moreL L s from by unfold freeL; rw [if_pos hR])
                obtain ⟨nx, hnx⟩ : ∃ n, (lessL L s).length = n := ⟨_, rfl⟩
                have hnX : (freeX L s).length = nx := by rw [hXX.out]; simp [hnx]
                obtain ⟨X, hX⟩ : ∃ X, (freeX L s) = X := ⟨_, rfl⟩
                rw [hX] at HG hnX ⊢
                rw [hnX, hnx]
                have hX2 := hXX.out
                rw [hX] at hX2
                have HXL := Lib.hid (And.intro hX2 (And.intro hnX (And.intro hnx (show nx ≤ 1048576 from by have := HOK.out.2; have h3 : (lessL L s).length ≤ L.length := List.length_filter_le _ _; omega))))
                have hee : ((nx : Int) == (nx : Int)) = true := by simp
                clear hR hnX hX hX2 hnx hXX
                go_wp2
                go_loopw [14, 25] (fun ov kv wr => ∃ z : Nat, ov = .bool true ∧ kv = .int .i64 (z : Int) ∧ z ≤ nx ∧ Hid (Below w9.heap.size w9 wr)) (fun _ v _ => nx - (intOf v).toNat)
                case atStart => exact ⟨0, rfl, rfl, Nat.zero_le _, Lib.hid (Below.refl _ _)⟩
                case round =>
                  obtain ⟨z, rfl, rfl, hz, HZ⟩ := hrel
                  by_cases hzl : z < nx
                  · have hzz : (z : Int) < (nx : Int) := by omega
                    have hz0 : (0 : Int) ≤ (z : Int) := by omega
                    have hrz : IntKind.i64.wrap ((z : Int) + 1) = ((z + 1 : Nat) : Int) := by rw [IntKind.wrap_i64]; have := HXL.out.2.2.2; omega
                    obtain ⟨en, hen⟩ : ∃ en, (lessL L s)[z]? = some en := ⟨_, List.getElem?_eq_getElem (by have := HXL.out.2.2.1; omega)⟩
                    have hxz : X[z]? = some en.2 := by rw [HXL.out.1, List.getElem?_map, hen]; rfl
                    have hpf : FlatE wr pa (lessL L s) := (by obtain ⟨p2, c2, he2, hf2⟩ := RowE.form (H9.out.r3.below HZ.out).ra; obtain rfl : pa = p2 := (by simpa using (Value.slice.inj he2).1); exact hf2)
                    obtain ⟨g2, off2, rfl, a0, a1, a2, a3⟩ := FlatE.in hpf z en hen
                    obtain ⟨g3, off3, rfl, r0⟩ := numAt (HG.out.below HZ.out) hxz
                    obtain ⟨yv, hyv⟩ : ∃ y, en.2 = y := ⟨_, rfl⟩
                    rw [hyv] at a3 r0
                    have hyy : (yv == yv) = true := by simp
                    have HZL := Lib.hid hzl
                    clear hen hxz hpf a0 a1 a2 hyv hz hzl 
                    go_wp2_with fail
                    go_quiet (fail)
                    have HZ2 := Lib.hid (show Below w9.heap.size w9 (wr.drewN nq) from belowT HZ.out (belowN (Below.refl _ _) _))
                    clear a3 r0
                    go_wp2
                    exact ⟨⟨z + 1, rfl, rfl, HZL.out, HZ2⟩, by have := HZL.out; simp [intOf]; omega⟩
                  · obtain rfl : z = nx := by omega
                    have hzz : ¬ ((z : Int) < (z : Int)) := by omega
                    have hr9 := H9.out.r3.below HZ.out
                    have hlw := H9.out.law.keep HC.out HZ.out
                    have hszr : V0.heap.size ≤ wr.heap.size := Nat.le_trans H9S.out HZ.out.size
                    obtain ⟨v1, V1, hr1, ho1, hg1, hl1⟩ := appendE (B := V0.heap.size) (v := .slice pb (levL L s).length cb) (M := levL L s) (L := moreL L s) cc (w := wr) hr9.rb (by obtain ⟨p2, c2, he2, hf2⟩ := RowE.form hr9.rc; obtain rfl : pc = p2 := (by simpa using (Value.slice.inj he2).1); exact hf2) hszr (by have := HOK.out.2; have h1 : (lessL L s).length ≤ L.length := List.length_filter_le _ _; have h2 : (levL L s).length ≤ L.length := List.length_filter_le _ _; have h3 : (moreL L s).length ≤ L.length := List.length_filter_le _ _; simp; omega)
                    have hlw1 := law_app HC.out hlw hr9.rb H9.out.ab H9.out.base hg1 hl1
                    have HE : Hid (PlI Tk w b k (levL L s ++ moreL L s) F2 v1 V1) := Lib.hid ⟨by have h := hlw1.1; rwa [HLL.out] at h, ownsRow_low ho1 H9.out.base, hlw1.2⟩
                    obtain ⟨p1, c1, rfl, -⟩ := RowE.form HE.out.row
                    clear hr9 hlw hszr ho1 hg1 hl1 hlw1 hz hzl
                    have hnn : (((levL L s ++ moreL L s).length : Int) != ((levL L s ++ moreL L s).length : Int)) = false := by simp
                    go_wp2_with (first
                      | (at_builtin; refine wpList_append_run rfl (.tmp 261) (.tmp 262) 35 rfl rfl rfl hr1 ?_)
                      | (go_at_call 14; refine (HC.out.len HE.out.law.tk).mono ?_; rintro e w20 ⟨rfl, hb20⟩; have HE2 := Lib.hid (HE.out.keep HC.out hb20); clear hb20))
                    exact ⟨⟨i + 1, rfl, HLT.out, Lib.hid ⟨levL L s ++ moreL L s, _, by have h := HE2.out; first | exact h | (simp only [List.length_append] at h ⊢; exact h) | simpa using h⟩⟩, by have := HLT.out; simp [intOf]; omega⟩
              · have hR1 : sRight s.1 s.2.1 s.2.2 = false := (Bool.eq_false_iff.2 hR)
                rw [hR1]
                clear hR1
                go_wp2_with fail
                clear c0 c1 c2 c3 c4
                refine (of7_c _ _ _ _).mono ?_
                rintro e w7 ⟨rfl, hb⟩
                have H7 := Lib.hid (H6.out.keep HC.out hb)
                have H7S := Lib.hid (Nat.le_trans H6S.out hb.size)
                clear hb
                have KB := Lib.hid (HC.out.free s H7.out.law.tk HS.out.1)
                go_wp2_with fail
                refine KB.out.mono ?_
                rintro e w9 ⟨pg, cg, F2, rfl, hgl, hgn, hT9, hw9, hl9⟩
                have H9 := Lib.hid (H7.out.turn hT9 hw9 hl9)
                have H9S := Lib.hid (Nat.le_trans H7S.out hl9.size)
                have HG := Lib.hid hgl
                clear hgl hgn hT9 hw9 hl9 KB
                have hX0 : (freeX L s) = [] := by unfold freeX; rw [if_neg hR]
                have HLL := Lib.hid (show freeL L s = L from by unfold freeL; rw [if_neg hR])
                rw [hX0]
                clear hX0 hR
                have HE : Hid (PlI Tk w b k L F2 (.slice p L.length cp) w9) := Lib.hid ⟨by have h := H9.out.law; rwa [HLL.out] at h, H9.out.row, H9.out.ap⟩
                have KLN := Lib.hid (HC.out.len HE.out.law.tk)
                have hnn : (((L).length : Int) != ((L).length : Int)) = false := by simp
                go_wp2_with fail
                refine KLN.out.mono ?_
                rintro e w20 ⟨rfl, hb20⟩
                have HE2 := Lib.hid (HE.out.keep HC.out hb20)
                clear hb20
                go_wp2
                exact ⟨⟨i + 1, rfl, HLT.out, Lib.hid ⟨L, _, by have h := HE2.out; first | exact h | (simp only [List.length_append] at h ⊢; exact h)⟩⟩, by have := HLT.out; simp [intOf]; omega⟩
        · obtain rfl : i = acts.length := by omega
          have hiz : ¬ ((acts.length : Int) < (acts.length : Int)) := by omega
          have KT := Lib.hid (HC.out.told hP.law.tk)
          have H9 := Lib.hid hP
          clear hP hfl hok hi HP hlt
          go_wp2_with fail
          refine KT.out.mono ?_
          rintro e w10 ⟨v10, rfl, hv10, hb10⟩
          obtain ⟨p1, c1, rfl, hf1⟩ := RowE.form hv10
          obtain ⟨p2, c2, he2, hf2⟩ := RowE.form (ownsRow_below H9.out.row hb10)
          obtain rfl : p = p2 := by simpa using (Value.slice.inj he2).1
          have KS := Lib.hid (same_c L p1 p c1 cp w10 hf1 hf2 (Nat.le_trans HOK.out.2 (by decide : 1048576 ≤ 4000000)))
          have H10 := Lib.hid (bT' H9.out.law.below hb10 H9.out.law.below.size)
          clear hv10 hf1 hf2 hb10 he2
          go_wp2_with fail
          refine KS.out.mono ?_
          rintro e w11 ⟨rfl, hb11⟩
          have H11 := Lib.hid (bT' H10.out hb11 H10.out.size)
          clear hb11
          go_wp2
          go_ret
          exact ⟨rfl, H11.out⟩
    · have HK := Lib.hid (And.intro hk hro)
      have KN := Lib.hid (HC.out.newNo room w2 hro hk)
      clear hro
      go_wp2_with fail
      refine KN.out.mono ?_
      rintro e w3 ⟨rfl, hb3⟩
      have HB3 := Lib.hid (bT' HB2.out hb3 HB2.out.size)
      clear hb3
      by_cases h1 : room < 1
      · have hr1 : decide (room < 1) = true := decide_eq_true h1
        clear hk h1
        go_wp2
        go_ret
        exact ⟨rfl, HB3.out⟩
      · have hr1 : decide (room < 1) = false := decide_eq_false h1
        have hr2 : decide (room > 1048576) = true := decide_eq_true (by omega)
        have hr3 : decide (1048576 < room) = true := decide_eq_true (by omega)
        clear hk h1
        go_wp2
        go_ret
        exact ⟨rfl, HB3.out⟩
  · have hd : decide ((acts.length : Int) > 200) = true := decide_eq_true (by omega)
    have hd2 : decide (200 < acts.length) = true := decide_eq_true (by omega)
    go_wp2_with fail
    refine (K0.out w2 HB2.out).mono ?_
    rintro e w3 ⟨rfl, hb3⟩
    have HB3 := Lib.hid (bT' HB2.out hb3 HB2.out.size)
    clear hb3
    go_wp2
    go_ret
    exact ⟨rfl, HB3.out⟩
end Go.Proofs.Ytibphmddepfgjaa.Tr
