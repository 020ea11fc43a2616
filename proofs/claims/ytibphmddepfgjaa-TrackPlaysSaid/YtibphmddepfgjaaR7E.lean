/-
  The law TrackAgain over this seat's translation, from a track's contracts. Conditions: those that each theorem states.
-/
import Derived.Test.YtibphmddepfgjaaR7D
namespace Go.Proofs.Ytibphmddepfgjaa.Tr
open Go.RowKit Go.Shelf Go.Lib Go.Sort

/-- What is there when the first of a list were put, with their numbers. -/
def putsE (ls : List Sp) : Nat → List En
  | 0 => []
  | k + 1 => putL 200 (putsE ls k) (ls.getD k (0, 0, 0)) (k : Int)
/-- What stays of a row, and what is not in F. -/
abbrev Apart (F : Nat → Prop) (v : Value) : Prop := ∀ g, v.ownBlock = some g → ¬ F g
/-- What Back takes. -/
def backN (L : List En) (s : Sp) : List En := if s.R = true then moreL L s else []
theorem back_all {L : List En} {s : Sp} (h : Rise L) : L = backL L s ++ backN L s ∧ backX L s = (backN L s).reverse.map (·.2) := by
  unfold backN backX
  by_cases hs : s.R = true
  · rw [if_pos hs, if_pos hs]
    exact ⟨back_split h hs, rfl⟩
  · rw [if_neg hs, if_neg hs]
    unfold backL
    rw [if_neg hs]
    exact ⟨by simp, rfl⟩
theorem map_at {L M N : List En} (h : L = M ++ N) {j m : Nat} (hm : N.length = m) (hj : 0 < j) (hjm : j ≤ m) {x : En} (hx : N[m - j]? = some x) : (L.map (·.1))[L.length - 1 - (j - 1)]? = some x.1 := by
  subst h
  rw [List.getElem?_map, List.length_append, List.getElem?_append_right (by omega), show M.length + N.length - 1 - (j - 1) - M.length = m - j from by omega, hx]
  rfl
theorem rev_at {N : List En} {j m : Nat} (hm : N.length = m) (hj : 0 < j) (hjm : j ≤ m) {x : En} (hx : N[m - j]? = some x) : (N.reverse.map (·.2))[j - 1]? = some x.2 := by
  rw [List.getElem?_map, List.getElem?_reverse (by omega), show N.length - 1 - (j - 1) = m - j from by omega, hx]
  rfl
theorem take_rest {N : List En} {j m : Nat} (hm : N.length = m) (hj : 0 < j) (hjm : j ≤ m) {x : En} (hx : N[m - j]? = some x) : ∃ R, N = N.take (m - j) ++ x :: R := by
  refine ⟨N.drop (m - j + 1), ?_⟩
  have h1 : m - j < N.length := by omega
  have h2 := List.getElem?_eq_getElem h1
  rw [hx] at h2
  cases h2
  rw [← List.drop_eq_getElem_cons h1, List.take_append_drop]
theorem listLeaves {α : Type} {c : α → List Value} {F : Nat → Prop} {W W' : World} {p : Option Addr} {L : List α} (h : Leaves F W W') (hl : InList c W p L) (ha : ∀ g off, p = some ⟨g, off, none⟩ → L ≠ [] → ¬ F g) : InList c W' p L := by
  rcases hl with hl | ⟨g, off, e, hc⟩
  · exact .inl hl
  · by_cases h0 : L = []
    · exact .inl h0
    · refine .inr ⟨g, off, e, fun j u hu => ?_⟩
      have := hc j u hu
      have hlt := World.block_lt_of_cell? _ _ this
      rw [World.cell?_of_block (h.same g hlt (ha g off e h0))]
      exact this

/-- What the law TrackAgain holds: the track, what was put, what was told, what Back gave. -/
structure AgI (Tk : World → Nat → Nat → List En → (Nat → Prop) → Prop) (W1 : World) (b : Nat) (T L : List En) (pv wv : Value) (pb : Option Addr) (X : List Int) (F : Nat → Prop) (W : World) : Prop where
  law : Law Tk W1 b 200 T F W
  row : RowS W W1.heap.size pv (L.map (·.1))
  ap : Apart F pv
  told : RowE W W1.heap.size wv L
  apw : Apart F wv
  list : InList cIn W pb X
  apl : ∀ g off, pb = some ⟨g, off, none⟩ → X ≠ [] → ¬ F g
theorem numLt {W : World} {g off : Nat} {X : List Int} (h : InList cIn W (some ⟨g, off, none⟩) X) (h0 : X ≠ []) : g < W.heap.size := by
  cases X with
  | nil => exact absurd rfl h0
  | cons x X =>
    obtain ⟨g', off', e, hc⟩ := numAt h (i := 0) (x := x) rfl
    have := World.block_lt_of_cell? _ _ hc
    cases e
    exact this
theorem AgI.keep {Tk : World → Nat → Nat → List En → (Nat → Prop) → Prop} (C : TkC Tk) {W1 W W' : World} {b : Nat} {T L : List En} {pv wv : Value} {pb : Option Addr} {X : List Int} {F : Nat → Prop} (h : AgI Tk W1 b T L pv wv pb X F W) (hb : Below W.heap.size W W') : AgI Tk W1 b T L pv wv pb X F W' :=
  ⟨h.law.keep C hb, ownsRow_below h.row hb, h.ap, ownsRow_below h.told hb, h.apw, h.list.below hb, h.apl⟩
theorem AgI.turn {Tk : World → Nat → Nat → List En → (Nat → Prop) → Prop} {W1 W W' : World} {b : Nat} {T T' L : List En} {pv wv : Value} {pb : Option Addr} {X : List Int} {F F' : Nat → Prop} (h : AgI Tk W1 b T L pv wv pb X F W) (h1 : Tk W' b 200 T' F') (h2 : Within F F' W) (h3 : Leaves F W W') : AgI Tk W1 b T' L pv wv pb X F' W' :=
  ⟨h.law.turn h1 h2 h3, h3.row h.row h.ap, h2.apart h.row h.ap, h3.row h.told h.apw, h2.apart h.told h.apw, listLeaves h3 h.list h.apl, fun g off e h0 k => by
    rcases h2 g k with h4 | h4
    · exact h.apl g off e h0 h4
    · have hl := h.list
      rw [e] at hl
      have := numLt hl h0
      omega⟩

set_option maxHeartbeats 16000000 in
set_option maxRecDepth 100000 in
theorem again_w {Tk : World → Nat → Nat → List En → (Nat → Prop) → Prop} (C : TkC Tk) (ls : List Sp) (q : Option Addr) (cap : Nat) (s : Sp) (hs : s.I) (hI : ∀ x ∈ ls, x.I) (w : World) (hl : InList cSp w q ls)
    (k0 : ∀ W, Below w.heap.size w W → Calls Try.prog 8 #[] W fun e w' => e = .returned (.bool true) ∧ Below W.heap.size W w') :
    Calls Try.prog 3 #[.slice q ls.length cap, s.v] w fun e w' => e = .returned (.bool true) ∧ Below w.heap.size w w' := by
  have mixed : Try.prog.follows .mixedOrders = true := by kernel_rfl
  obtain ⟨i0, hi0, hz0, hz1, hz2⟩ := info_parts infoS
  obtain ⟨W1, hW1⟩ : ∃ W1, w.alloc (.cells #[.int .i64 s.1, .int .i64 s.2.1, .int .i64 s.2.2] 26) = W1 := ⟨_, rfl⟩
  have hb1 : Below w.heap.size w W1 := hW1 ▸ bA' (Below.refl _ _) (Nat.le_refl _) _
  have hbx : W1.heap[w.heap.size]? = some (.cells #[.int .i64 s.1, .int .i64 s.2.1, .int .i64 s.2.2] 26 (0, 0)) := hW1 ▸ World.alloc_heap_new w _
  have K0 := Lib.hid (fun W (hb : Below W1.heap.size W1 W) => k0 W (bT' hb1 hb hb1.size))
  have H1 := Lib.hid (And.intro hb1 (And.intro hbx (hl.below hb1)))
  have HW := Lib.hid hW1
  have HC := Lib.hid C
  have HI := Lib.hid (And.intro hs hI)
  clear k0 hb1 hbx hl hW1 C hs hI
  go_enter Try.func3, Try.ntmps3
  go_wp2_with fail
  rw [HW.out]
  clear HW
  refine (K0.out W1 (Below.refl _ _)).mono ?_
  rintro e w2 ⟨rfl, hb2⟩
  have HB2 := Lib.hid hb2
  clear hb2
  by_cases h200 : ls.length ≤ 200
  · have hd : decide ((ls.length : Int) > 200) = false := decide_eq_false (by omega)
    have hd2 : decide (200 < ls.length) = false := decide_eq_false (by omega)
    have HN := Lib.hid h200
    clear h200
    go_wp2_with fail
    refine (HC.out.new 200 w2 (by decide) (by decide)).mono ?_
    rintro e w3 ⟨b, F0, rfl, htk, hF0, hb3⟩
    have H3 : Hid (∃ F, Law Tk W1 b 200 (putsE ls 0) F w3 ∧ RowS w3 W1.heap.size (.slice none 0 0) ((putsE ls 0).map (·.1)) ∧ Apart F (.slice none 0 0)) := Lib.hid ⟨F0, ⟨htk, fun x hx => Nat.le_trans HB2.out.size (hF0 x hx), bT' HB2.out hb3 HB2.out.size⟩, World.ownsRow_nil _ _ _ _, fun g e => by cases e⟩
    clear htk hF0 hb3 hd hd2
    go_wp2
    go_loopw [7, 8] (fun pv iv wr => ∃ k : Nat, iv = .int .i64 k ∧ k ≤ ls.length ∧ Hid (∃ F, Law Tk W1 b 200 (putsE ls k) F wr ∧ RowS wr W1.heap.size pv ((putsE ls k).map (·.1)) ∧ Apart F pv)) (fun _ v _ => ls.length - (intOf v).toNat)
    case atStart => exact ⟨0, rfl, Nat.zero_le _, H3⟩
    case round =>
      clear H3
      obtain ⟨k, rfl, hk, HP⟩ := hrel
      by_cases hlt : k < ls.length
      · have hkz : (k : Int) < (ls.length : Int) := by omega
        have hk0 : (0 : Int) ≤ (k : Int) := by omega
        have hri : IntKind.i64.wrap ((k : Int) + 1) = ((k + 1 : Nat) : Int) := by rw [IntKind.wrap_i64]; have := HN.out; omega
        obtain ⟨F, hP, hrow, hap⟩ := HP.out
        obtain ⟨x, hx⟩ : ∃ x, ls[k]? = some x := ⟨_, List.getElem?_eq_getElem hlt⟩
        have hgd : ls.getD k (0, 0, 0) = x := by rw [List.getD_eq_getElem?_getD, hx]; rfl
        obtain ⟨g, off, rfl, e0, e1, e2⟩ := stampAt (H1.out.2.2.below hP.below) hx
        have hxI := HI.out.2 x (List.mem_of_getElem? hx)
        have HPU := Lib.hid (show putsE ls (k + 1) = putL 200 (putsE ls k) x (k : Int) from by rw [← hgd]; rfl)
        have HQ := Lib.hid (And.intro hP (And.intro hrow (And.intro hap (And.intro hx (And.intro hlt hxI)))))
        clear hP hrow hap hx hgd hxI hlt hk
        go_wp2_with fail
        refine (of7_c _ _ _ _).mono ?_
        rintro e w5 ⟨rfl, hb5⟩
        have hP5 := HQ.out.1.keep HC.out hb5
        have KP := Lib.hid (HC.out.put x (k : Int) hP5.tk HQ.out.2.2.2.2.2 (by have := HN.out; have := HQ.out.2.2.2.2.1; constructor <;> omega))
        have H5 := Lib.hid (And.intro hP5 (ownsRow_below HQ.out.2.1 hb5))
        clear hb5 hP5 e0 e1 e2
        go_wp2_with fail
        refine (KP.out).mono ?_
        rintro e w6 ⟨rfl, F', hT6, hw6, hl6⟩
        have hP6 := H5.out.1.turn hT6 hw6 hl6
        have hrow6 := hl6.row H5.out.2 HQ.out.2.2.1
        have hap6 := hw6.apart H5.out.2 HQ.out.2.2.1
        obtain ⟨E, hE⟩ : ∃ E, putE 200 (putsE ls k) x = E := ⟨_, rfl⟩
        rw [hE]
        have H6 := Lib.hid (And.intro hP6 (And.intro hrow6 (And.intro hap6 hE)))
        clear hT6 hw6 hl6 hP6 hrow6 hap6 hE
        by_cases h0 : E = 0
        · have hz : (E == 0) = true := by simpa using h0
          have HM := Lib.hid (show putsE ls (k + 1) = putsE ls k ++ [(x, (k : Int))] from by rw [HPU.out]; unfold putL; rw [if_pos (by rw [H6.out.2.2.2]; exact h0)])
          have HU := Lib.hid (show putL 200 (putsE ls k) x (k : Int) = putsE ls (k + 1) from HPU.out.symm)
          obtain ⟨g', off', hgo, e0, e1, e2⟩ := stampAt (H1.out.2.2.below H6.out.1.below) HQ.out.2.2.2.1
          obtain ⟨rfl, rfl⟩ : g = g' ∧ off = off' := by simpa using hgo
          have HLN := Lib.hid (show ((putsE ls k).map (·.1)).length ≤ 200 from by have := (HC.out.ok H6.out.1.tk).2.2.1; rw [HU.out, HM.out] at this; simp at this ⊢; omega)
          clear h0 hgo
          go_wp2_with (at_builtin; refine wpList_append_own_at _ rfl _ _ 22 rfl W1.heap.size 26 i0 (.agg #[.int .i64 0, .int .i64 0, .int .i64 0]) 3 24 Try.underlying22 hi0 hz0 hz1 hz2 rfl (by decide) _ _ _ rfl (H6.out.2.1.alloc _) ⟨w6.heap.size, 0, none⟩ 1 1 [.int .i64 x.1, .int .i64 x.2.1, .int .i64 x.2.2] rfl rfl (by
              have := World.ownsRow_lit (base := 0) (e := 26) (size := 3) w6 #[.int .i64 x.1, .int .i64 x.2.1, .int .i64 x.2.2] 1 (by omega) (by unfold maxLen; omega) rfl
              exact this.cells (g := w6.heap.size) (by simp [Value.ownBlock])) (by
              intro u hu
              simp only [List.mem_cons, List.not_mem_nil, or_false] at hu
              rcases hu with rfl | rfl | rfl <;> rfl) (by unfold maxLen; have := HLN.out; omega) (by have := HLN.out; omega) (by have := H6.out.1.below.size; simp; omega) ?_; intro v' w8 hown' hg8 hnil8 hloc8)
          have hba : Below w6.heap.size w6 (w6.alloc (.cells #[.int .i64 x.1, .int .i64 x.2.1, .int .i64 x.2.2] 26)) := bA' (Below.refl _ w6) (Nat.le_refl _) _
          have hP8 := (H6.out.1.keep HC.out hba).grow HC.out hg8 (fun g e => ⟨H6.out.2.2.1 g e, (H6.out.2.1.lt g e).1⟩)
          rw [HU.out] at hP8
          refine ⟨⟨k + 1, rfl, HQ.out.2.2.2.2.1, Lib.hid ⟨F', hP8, ?_, fun g e hF => ?_⟩⟩, by have := HQ.out.2.2.2.2.1; simp [intOf]; omega⟩
          · rw [HM.out, List.map_append]
            exact RowS.snoc hown'
          · rcases hloc8 with h | h
            · exact H6.out.2.2.1 g (h ▸ e) hF
            · rw [h] at e
              cases e
              have := HC.out.lt H6.out.1.tk _ hF
              rw [World.size_alloc] at this
              omega
        · have hz : (E == 0) = false := by simpa using h0
          have HM := Lib.hid (show putsE ls (k + 1) = putsE ls k from by rw [HPU.out]; unfold putL; rw [if_neg (by rw [H6.out.2.2.2]; exact h0)])
          have HU := Lib.hid (show putL 200 (putsE ls k) x (k : Int) = putsE ls (k + 1) from HPU.out.symm)
          clear h0
          go_wp2
          refine ⟨⟨k + 1, rfl, HQ.out.2.2.2.2.1, Lib.hid ⟨F', ?_, ?_, H6.out.2.2.1⟩⟩, by have := HQ.out.2.2.2.2.1; simp [intOf]; omega⟩
          · rw [← HU.out]; exact H6.out.1
          · rw [HM.out]; exact H6.out.2.1
      · obtain rfl : k = ls.length := by omega
        have hkz : ¬ ((ls.length : Int) < (ls.length : Int)) := by omega
        obtain ⟨F, hP, hrow, hap⟩ := HP.out
        obtain ⟨L, hL⟩ : ∃ L, putsE ls ls.length = L := ⟨_, rfl⟩
        rw [hL] at hP hrow
        have KT := Lib.hid (HC.out.told hP.tk)
        have HQ := Lib.hid (And.intro hP (And.intro hrow hap))
        clear hP hrow hap hL HP hk
        go_wp2_with fail
        refine KT.out.mono ?_
        rintro e w6 ⟨wv, rfl, hwv, hb6⟩
        have hP6 := HQ.out.1.keep HC.out hb6
        have H6 := Lib.hid (And.intro hP6 (And.intro (ownsRow_below HQ.out.2.1 hb6) (And.intro (ownsRow_low hwv HQ.out.1.below.size) (show Apart F wv from fun g e hF => by
          have h1 := (hwv.lt g e).1
          have h2 := HC.out.lt HQ.out.1.tk g hF
          omega))))
        obtain ⟨x0, x1, x2⟩ := cells3 (kbE H1.out.2.1 hP6.below) (Below.refl _ _)
        clear hwv hb6 hP6 KT
        go_wp2_with fail
        clear x0 x1 x2
        refine (of7_c _ _ _ _).mono ?_
        rintro e w7 ⟨rfl, hb7⟩
        have hP7 := H6.out.1.keep HC.out hb7
        have KB := Lib.hid (HC.out.back s hP7.tk HI.out.1)
        have H7 := Lib.hid (And.intro hP7 (And.intro (ownsRow_below H6.out.2.1 hb7) (ownsRow_below H6.out.2.2.1 hb7)))
        clear hb7 hP7
        go_wp2_with fail
        refine KB.out.mono ?_
        rintro e w8 ⟨pb, cb, F', rfl, hbl, hbn, hT8, hw8, hl8⟩
        have hok := HC.out.ok HQ.out.1.tk
        obtain ⟨hsplit, hbX⟩ := back_all (s := s) hok.2.2.2.1
        obtain ⟨M, hM⟩ : ∃ M, backL L s = M := ⟨_, rfl⟩
        obtain ⟨N, hN⟩ : ∃ N, backN L s = N := ⟨_, rfl⟩
        obtain ⟨X, hX⟩ : ∃ X, backX L s = X := ⟨_, rfl⟩
        rw [hM, hN] at hsplit
        rw [hN, hX] at hbX
        rw [hM] at hT8
        rw [hX] at hbl hbn ⊢
        obtain ⟨m, hm⟩ : ∃ m, N.length = m := ⟨_, rfl⟩
        have hXm : X.length = m := by rw [hbX]; simp [hm]
        have hP8 := H7.out.1.turn hT8 hw8 hl8
        have hm2 : L.length ≤ 200 ∧ m ≤ L.length := by
          have := hok.2.2.1
          have h2 := congrArg List.length hsplit
          rw [List.length_append] at h2
          omega
        have H8 : Hid (∃ F, AgI Tk W1 b (M ++ N.take (m - m)) L u7 wv pb X F w8) := Lib.hid ⟨F', by rw [Nat.sub_self, List.take_zero, List.append_nil]; exact hP8, hl8.row H7.out.2.1 HQ.out.2.2, hw8.apart H7.out.2.1 HQ.out.2.2, hl8.row H7.out.2.2 H6.out.2.2.2, hw8.apart H7.out.2.2 H6.out.2.2.2, hbl, fun g off e h => (hbn g off e h).1⟩
        have HL := Lib.hid (And.intro hsplit (And.intro hbX (And.intro hm (And.intro hXm (And.intro hm2 hok.2.2.2)))))
        have hlm : X.length = m := hXm
        obtain ⟨pv7, c7, hu7, -⟩ := RowS.form HQ.out.2.1
        subst hu7
        have hmm : IntKind.i64.wrap ((m : Int) - 1) = (m : Int) - 1 := by rw [IntKind.wrap_i64] <;> omega
        rw [hlm]
        clear hsplit hbX hm hXm hT8 hw8 hl8 hbl hbn hP8 hok hM hN hX hlm hm2 KB
        obtain ⟨lp, hlp⟩ : ∃ n, (L.map (·.1)).length = n := ⟨_, rfl⟩
        have hlpL : lp = L.length := by rw [← hlp]; simp
        rw [hlp] at H8 ⊢
        have HLP := Lib.hid (And.intro hlp hlpL)
        clear hlp hlpL
        go_wp2
        go_loopw [11] (fun iv wr => ∃ (j : Nat) (v : Int), iv = .int .i64 v ∧ v = (j : Int) - 1 ∧ j ≤ m ∧ Hid (∃ F, AgI Tk W1 b (M ++ N.take (m - j)) L (.slice pv7 lp c7) wv pb X F wr)) (fun v _ => (intOf v + 1).toNat)
        case atStart => exact ⟨m, _, rfl, rfl, Nat.le_refl _, H8⟩
        case round =>
          clear H8
          obtain ⟨j, v, rfl, hv, hj, HP⟩ := hrel
          cases j with
          | zero =>
            obtain rfl : v = -1 := by omega
            clear hv
            obtain ⟨F, hA⟩ := HP.out
            have hP := hA.law
            have hwv := hA.told
            rw [Nat.sub_zero, List.take_of_length_le (by have := HL.out.2.2.1; omega), ← HL.out.1] at hP
            have KLN := Lib.hid (HC.out.len hP.tk)
            have HQ9 := Lib.hid (And.intro hP hwv)
            have hlen : ((L.length : Int) == (lp : Int)) = true := by rw [HLP.out.2]; simp
            clear hP hwv hA HP
            go_wp2_with fail
            refine KLN.out.mono ?_
            rintro e w9 ⟨rfl, hb9⟩
            have hP9 := HQ9.out.1.keep HC.out hb9
            have KT9 := Lib.hid (HC.out.told hP9.tk)
            have H9 := Lib.hid (And.intro hP9 (ownsRow_below HQ9.out.2 hb9))
            clear hb9 hP9
            go_wp2_with fail
            refine KT9.out.mono ?_
            rintro e w10 ⟨v10, rfl, hv10, hb10⟩
            obtain ⟨p1, c1, rfl, hf1⟩ := RowE.form hv10
            obtain ⟨p2, c2, rfl, hf2⟩ := RowE.form (ownsRow_below H9.out.2 hb10)
            have KS := Lib.hid (same_c L p1 p2 c1 c2 w10 hf1 hf2 (by have := HL.out.2.2.2.2.1; omega))
            have H10 := Lib.hid (H9.out.1.keep HC.out hb10)
            clear hv10 hf1 hf2 hb10
            go_wp2_with fail
            refine KS.out.mono ?_
            rintro e w11 ⟨rfl, hb11⟩
            have H11 := Lib.hid (bT' H1.out.1 (bT' H10.out.below hb11 H10.out.below.size) H1.out.1.size)
            clear hb11
            go_wp2
            go_ret
            exact ⟨rfl, H11.out⟩
          | succ i =>
            obtain rfl : v = (i : Int) := by omega
            clear hv
            obtain ⟨F, hA⟩ := HP.out
            have him : m - (i + 1) < N.length := by have := HL.out.2.2.1; omega
            obtain ⟨x, hx⟩ : ∃ x, N[m - (i + 1)]? = some x := ⟨_, List.getElem?_eq_getElem him⟩
            have ha := map_at HL.out.1 HL.out.2.2.1 (by omega) hj hx
            have hr := rev_at HL.out.2.2.1 (by omega) hj hx
            rw [← HL.out.2.1] at hr
            obtain ⟨R, hR⟩ := take_rest HL.out.2.2.1 (by omega) hj hx
            rw [show i + 1 - 1 = i from by omega] at ha hr
            obtain ⟨f, hf⟩ : ∃ f, L.length - 1 - i = f := ⟨_, rfl⟩
            rw [hf] at ha
            obtain ⟨p', c', hpe, hin⟩ := RowS.form hA.row
            obtain ⟨g, off, hpg, e0, e1, e2⟩ := stampAt hin ha
            obtain ⟨g2, off2, rfl, r0⟩ := numAt hA.list hr
            obtain rfl : pv7 = some ⟨g, off, none⟩ := by
              simp at hpe
              rw [hpe.1]
              exact hpg
            have hxL : x ∈ L := by rw [HL.out.1]; exact List.mem_append_right _ (List.mem_of_getElem? hx)
            have hxI := (HL.out.2.2.2.2.2.2 x hxL)
            have hsum : M ++ N.take (m - i) = (M ++ N.take (m - (i + 1))) ++ [x] := by
              rw [List.append_assoc, show m - i = m - (i + 1) + 1 from by omega, take_snocE hx]
            have hag := again (k := 200) (M := M ++ N.take (m - (i + 1))) (N := R) (a := x) (by
              rw [List.append_assoc, ← hR, ← HL.out.1]
              exact HL.out.2.2.2.2.2.1) (by
              rw [List.append_assoc, ← hR, ← HL.out.1]
              exact HL.out.2.2.2.2.1.1)
            have HA := Lib.hid (And.intro hA (And.intro hxI (And.intro hsum (And.intro hag (And.intro ha (And.intro hr hj))))))
            have hlp1 : IntKind.i64.wrap ((lp : Int) - 1) = (lp : Int) - 1 := by have := HL.out.2.2.2.2.1; have := HLP.out.2; rw [IntKind.wrap_i64] <;> omega
            have hlp2 : IntKind.i64.wrap ((lp : Int) - 1 - (i : Int)) = (f : Int) := by have := HL.out.2.2.2.2.1; have := HLP.out.2; rw [IntKind.wrap_i64] <;> omega
            have hi1 : IntKind.i64.wrap ((i : Int) - 1) = (i : Int) - 1 := by have := HL.out.2.2.2.2.1; rw [IntKind.wrap_i64] <;> omega
            have hi0z : (0 : Int) ≤ (i : Int) := by omega
            have him2 : (i : Int) < (m : Int) := by omega
            have hf0 : (0 : Int) ≤ (f : Int) := by omega
            have hfl : (f : Int) < (lp : Int) := by have := HL.out.2.2.2.2.1; have := HLP.out.2; omega
            have hge : decide ((i : Int) ≥ 0) = true := decide_eq_true hi0z
            clear hA him hx ha hr hR hf hpe hin hpg hxL hxI hsum hag hj HP
            go_wp2_with fail
            go_region_held3 (fun w' => w'.cell? ⟨g, off + f * 3, none⟩ = some (.int .i64 x.1.1) ∧ w'.cell? ⟨g, off + f * 3 + 1, none⟩ = some (.int .i64 x.1.2.1) ∧ w'.cell? ⟨g, off + f * 3 + 2, none⟩ = some (.int .i64 x.1.2.2) ∧ w'.cell? ⟨g2, off2 + i, none⟩ = some (.int .i64 x.2))
              (first | exact ⟨t0, t1, t2, t3⟩ | (go_split_ands; with_reducible exact ⟨keepc hb (by assumption), keepc hb (by assumption), keepc hb (by assumption), keepc hb (by assumption)⟩) | exact ⟨e0, e1, e2, r0⟩ | go_keep)
              (first
                | (go_at_call 11; refine (of7_c _ _ _ _).mono ?_; rintro e w6 ⟨rfl, hb⟩; have H6 := Lib.hid (HA.out.1.keep HC.out (belowT (by repeat (first | with_reducible exact Below.refl _ _ | with_reducible refine Below.drew ?_ | with_reducible refine belowN ?_ _)) hb)))
                | (go_at_call 10; refine (HC.out.put x.1 x.2 H6.out.law.tk HA.out.2.1.1 HA.out.2.1.2).mono ?_; rintro e w9 ⟨rfl, F', hT9, hw9, hl9⟩; rw [HA.out.2.2.2.1.1]; rw [HA.out.2.2.2.1.2, ← HA.out.2.2.1] at hT9; have H9 := Lib.hid (H6.out.turn hT9 hw9 hl9); clear hb hT9 hw9 hl9; obtain ⟨p9, c9, hpe9, hin9⟩ := RowS.form H9.out.row; obtain ⟨g9, off9, hpg9, t0, t1, t2⟩ := stampAt hin9 HA.out.2.2.2.2.1; obtain ⟨h9, hff9, hph9, t3⟩ := numAt H9.out.list HA.out.2.2.2.2.2.1; obtain ⟨rfl, rfl⟩ : g = g9 ∧ off = off9 := (by simp at hpe9; rw [← hpe9.1] at hpg9; simpa using hpg9); obtain ⟨rfl, rfl⟩ : g2 = h9 ∧ off2 = hff9 := (by simpa using hph9); clear hpe9 hin9 hpg9 hph9))
            all_goals
              clear e0 e1 e2 r0
              go_wp2
              exact ⟨⟨i, _, rfl, rfl, by have := HA.out.2.2.2.2.2.2; omega, Lib.hid ⟨_, H9.out⟩⟩, by simp [intOf] <;> omega⟩
  · have hd : decide ((ls.length : Int) > 200) = true := decide_eq_true (by omega)
    have hd2 : decide (200 < ls.length) = true := decide_eq_true (by omega)
    go_wp2_with fail
    refine (K0.out w2 HB2.out).mono ?_
    rintro e w3 ⟨rfl, hb3⟩
    have HB3 := Lib.hid (bT' H1.out.1 (bT' HB2.out hb3 HB2.out.size) H1.out.1.size)
    clear hb3
    go_wp2
    go_ret
    exact ⟨rfl, HB3.out⟩
end Go.Proofs.Ytibphmddepfgjaa.Tr
