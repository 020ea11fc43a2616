/-
  The law TrackFrom over this seat's translation, from a track's contracts. Conditions: those that each theorem states.
-/
import Derived.Test.YtibphmddepfgjaaR7G
import Derived.Test.YtibphmddepfgjaaR7R
namespace Go.Proofs.Ytibphmddepfgjaa.Tr
open Go.RowKit Go.Shelf Go.Lib Go.Sort
attribute [local go_sem] Oper.semAt_some

/-- A law's track beside the given package's list: a row of the law's own. -/
structure FrI (Tk : World → Nat → Nat → List En → (Nat → Prop) → Prop) (w : World) (b k : Nat) (L : List En) (F : Nat → Prop) (mv : Value) (W : World) : Prop where
  law : Law Tk w b k L F W
  row : RowE W w.heap.size mv L
  ap : Apart F mv
theorem FrI.keep {Tk : World → Nat → Nat → List En → (Nat → Prop) → Prop} (C : TkC Tk) {w W W' : World} {b k : Nat} {L : List En} {F : Nat → Prop} {mv : Value} (h : FrI Tk w b k L F mv W) (hb : Below W.heap.size W W') : FrI Tk w b k L F mv W' := ⟨h.law.keep C hb, ownsRow_below h.row hb, h.ap⟩

theorem from_set' {B k : Nat} (W : World) (u : Value) (hk : k < B) : KeepsFrom B W (W.setCell ⟨k, 0, none⟩ u) :=
  ⟨by simp, fun j o hj h _ => (heap_setCell_other _ ⟨k, 0, none⟩ j u (by show j ≠ k; omega)).trans h⟩
theorem kp_set' {lo hi k : Nat} (W : World) (u : Value) (h2 : k < lo) : Kp (fun _ => False) lo hi W (W.setCell ⟨k, 0, none⟩ u) :=
  ⟨by simp, fun b o hs hb _ => (heap_setCell_other _ ⟨k, 0, none⟩ b u (by
    rcases hs with hs | hs
    · exact hs.elim
    · show b ≠ k
      omega)).trans hb⟩
/-- A RANGE STATEMENT over an iterator with memory of its own, its round's act told by the round and by the box that it lays. -/
theorem range_lawPb {g : Operand} {ps : Array Tmp} {assign body : Code} {Q : Exit → Act → World → Prop} {a : Act} {w : World} {gf : Nat} {lb : Array Value}
    (hg : a.eval g = .func (.func gf) #[] lb) (eg : ∀ args w, (callFunc gf args).run Try.prog w = .ok (.enter gf args) w)
    {N : Nat} {ar : Nat → Array Value} {old : Nat → Prop} (hseq : SeqP gf lb N ar old w) (hps : ∀ k, (ar k).size = ps.size)
    (I : Nat → Nat → World → Prop) (Ix : Code → Nat → Nat → World → Prop) (hI : ∀ hi, OwnFrom w.heap.size (I hi)) (hIx : ∀ c hi, OwnFrom w.heap.size (Ix c hi))
    (hIn : ∀ hi k A C, w.heap.size + 2 ≤ hi → hi ≤ A.heap.size → I hi k A → Inner (w.heap.size + 2) hi A C → I hi k C)
    (h0 : ∀ W', Below w.heap.size w W' → w.heap.size + 2 ≤ W'.heap.size → I W'.heap.size 0 W')
    (Px : Nat → Nat → World → Prop) (hPx : ∀ k bx, OwnFrom w.heap.size (fun (_ : Unit) W => Px k bx W)) (Fx : Nat → Nat → Act)
    (hassign : ∀ (l hi k : Nat) (W : World) (K : Act → World → Prop), w.heap.size + 2 ≤ hi → hi ≤ W.heap.size → I hi k W → k < N → (∀ bx W', Below W.heap.size W W' → I hi k W' → Px k bx W' → K (Fx k bx) W') →
      assign.wpIn (Fence.wide.inRound l) 0 Try.prog (Exit.then K (fun _ _ _ => False)) { tmps := (ps.zip (ar k)).foldl (fun t (p, v) => t.setIfInBounds p v) a.tmps, defers := [] } W)
    (hbody : ∀ (l hi k bx : Nat) (W : World), w.heap.size + 2 ≤ hi → hi ≤ W.heap.size → I hi k W → Px k bx W → k < N →
      body.wpIn (Fence.wide.inRound l) 0 Try.prog (AfterP old (w.heap.size + 2) w.heap.size hi I Ix (k + 1) W) (Fx k bx) W)
    (hdone : ∀ (D hi : Nat) (W : World), w.heap.size ≤ D → w.heap.size + 2 ≤ hi → I hi N W → W.heap[D]? = some (.deferred (some [])) → Q .normal { a with defers := { target := .collected D, args := #[] } :: a.defers } W)
    (hstop : ∀ (D hi : Nat) (c : Code) (k : Nat) (W : World), w.heap.size ≤ D → w.heap.size + 2 ≤ hi → k ≤ N → Ix c hi k W → W.heap[D]? = some (.deferred (some [])) → c.wpIn Fence.wide 0 Try.prog Q { a with defers := { target := .collected D, args := #[] } :: a.defers } W) :
    (Code.rangeFunc g ps assign body).wpIn Fence.wide 0 Try.prog Q a w :=
  range_lawP hg eg hseq hps I Ix hI hIx hIn h0 (fun _ k a' W => ∃ bx, a' = Fx k bx ∧ Px k bx W) (fun _ k _ s A C row ⟨bx, e, h⟩ hg hr => ⟨bx, e, hPx k bx s A C row h hg hr⟩)
    (fun l hi k W K h1 h2 h3 h4 hK => hassign l hi k W K h1 h2 h3 h4 fun bx W' hb hi' hp => hK _ W' hb hi' ⟨bx, rfl, hp⟩)
    (fun l hi k a' W h1 h2 h3 ⟨bx, e, hp⟩ h5 => by subst e; exact hbody l hi k bx W h1 h2 h3 hp h5) hdone hstop
theorem neP7 (an ad ac bn bd bc : Int) (w : World) : (binOp BinOp.neq 33 (.agg #[.int .i64 an, .int .i64 ad, .int .i64 ac]) (.agg #[.int .i64 bn, .int .i64 bd, .int .i64 bc])).run Try.prog w = .ok (.bool (!decide (an = bn ∧ ad = bd ∧ ac = bc))) w := by
  by_cases h1 : an = bn
  · by_cases h2 : ad = bd
    · by_cases h3 : ac = bc
      · subst h1 h2 h3
        go_simp
      · subst h1 h2
        go_simp
    · subst h1
      go_simp
  · go_simp
/-- What stands fast behind TrackFrom's loop: the law's memory. -/
structure FrL (w W1 W3 : World) (s : Sp) (stop wb kb : Nat) (p1 : Option Addr) (c1 : Nat) (U : List En) : Prop where
  st : W3.heap[w.heap.size + 1]? = some (.cells #[.int .u8 (stop : Int)] 5 (0, 0))
  res : W3.heap[w.heap.size + 1 + 1]? = some (.cells #[.bool false] 4 (0, 0))
  want : W3.heap[wb]? = some (.cells #[.slice p1 U.length c1] 35 (0, 0))
  flat : ∀ i e, U[i]? = some e → ∃ g off, p1 = some ⟨g, off, none⟩ ∧ g < kb ∧ W3.cell? ⟨g, off + i * 4, none⟩ = some (.int .i64 e.1.1) ∧ W3.cell? ⟨g, off + i * 4 + 1, none⟩ = some (.int .i64 e.1.2.1) ∧ W3.cell? ⟨g, off + i * 4 + 2, none⟩ = some (.int .i64 e.1.2.2) ∧ W3.cell? ⟨g, off + i * 4 + 3, none⟩ = some (.int .i64 e.2)
  low : w.heap.size + 1 + 1 < kb ∧ wb < kb ∧ W3.heap.size = kb + 1
  below : Below w.heap.size w W3

set_option maxHeartbeats 32000000 in
set_option maxRecDepth 1000000 in
theorem from_w {Tk : World → Nat → Nat → List En → (Nat → Prop) → Prop} (C : TkC Tk)
    (hfrom : ∀ {W : World} {b k : Nat} {L : List En} {F : Nat → Prop} (s : Sp), Tk W b k L F → s.I → Calls Try.prog 22 #[.pointer (some ⟨b, 0, none⟩), s.v] W fun e W' => ∃ gf lb, e = .returned (.func (.func gf) #[] lb) ∧ (∀ args w, (callFunc gf args).run Try.prog w = .ok (.enter gf args) w) ∧ Below W.heap.size W W' ∧ SeqP gf lb (fromL L s).length (fun j => #[(gE (fromL L s) j).1.v, .int .i64 (gE (fromL L s) j).2]) (fun _ => False) W')
    (ls : List Sp) (q : Option Addr) (cap : Nat) (s : Sp) (stop : Nat) (hstop : stop ≤ 255) (hs : s.I) (hI : ∀ x ∈ ls, x.I) (w : World) (hl : InList cSp w q ls)
    (k0 : ∀ W, Below w.heap.size w W → Calls Try.prog 8 #[] W fun e w' => e = .returned (.bool true) ∧ Below W.heap.size W w') :
    Calls Try.prog 5 #[.slice q ls.length cap, s.v, .int .u8 (stop : Int)] w fun e w' => e = .returned (.bool true) ∧ Below w.heap.size w w' := by
  have mixed : Try.prog.follows .mixedOrders = true := by kernel_rfl
  obtain ⟨W1, hW1⟩ : ∃ W1, ((w.alloc (.cells #[.int .i64 s.1, .int .i64 s.2.1, .int .i64 s.2.2] 26)).alloc (.cells #[.int .u8 (stop : Int)] 5)).alloc (.cells #[.bool false] 4) = W1 := ⟨_, rfl⟩
  have hb1 : Below w.heap.size w W1 := hW1 ▸ belowA (belowA (belowA (Below.refl _ w) _) _) _
  have hbs : W1.heap[w.heap.size]? = some (.cells #[.int .i64 s.1, .int .i64 s.2.1, .int .i64 s.2.2] 26 (0, 0)) := by
    rw [← hW1, Below.heap_alloc _ _ _ (by simp; omega), Below.heap_alloc _ _ _ (by simp)]
    exact World.alloc_heap_new w _
  have hbt : W1.heap[w.heap.size + 1]? = some (.cells #[.int .u8 (stop : Int)] 5 (0, 0)) := by
    rw [← hW1, Below.heap_alloc _ _ _ (by simp)]
    have := World.alloc_heap_new (w.alloc (.cells #[.int .i64 s.1, .int .i64 s.2.1, .int .i64 s.2.2] 26)) (.cells #[.int .u8 (stop : Int)] 5)
    rw [World.size_alloc] at this
    exact this
  have hbr : W1.heap[w.heap.size + 1 + 1]? = some (.cells #[.bool false] 4 (0, 0)) := by
    have := World.alloc_heap_new ((w.alloc (.cells #[.int .i64 s.1, .int .i64 s.2.1, .int .i64 s.2.2] 26)).alloc (.cells #[.int .u8 (stop : Int)] 5)) (.cells #[.bool false] 4)
    rw [World.size_alloc, World.size_alloc] at this
    rw [← hW1]
    exact this
  have hs1 : W1.heap.size = w.heap.size + 3 := by rw [← hW1]; simp
  have K0 := Lib.hid (fun W (hb : Below W1.heap.size W1 W) => k0 W (bT' hb1 hb hb1.size))
  have H1 := Lib.hid (And.intro hb1 (And.intro hbs (And.intro hbt (And.intro hbr (And.intro hs1 (hl.below hb1))))))
  have HW := Lib.hid hW1
  have HC := Lib.hid C
  have HI := Lib.hid (And.intro hs (And.intro hstop hI))
  have HFR := Lib.hid (fun (W : World) (b k : Nat) (L : List En) (F : Nat → Prop) (s : Sp) => @hfrom W b k L F s)
  clear k0 hb1 hbs hbt hbr hs1 hl hW1 C hs hstop hI hfrom
  refine (callsIn_wide (n := 0)).1 ?_
  refine callsIn_of_wp_marks Try.func5 rfl trivial ?_ rfl
  simp only [Try.ntmps5, List.size_toArray, List.length_cons, List.length_nil, Nat.reduceAdd, Nat.reduceSub, Array.replicate_succ, Array.replicate_zero, List.push_toArray, List.append_toArray, List.nil_append, List.cons_append]
  refine wpIn_wide.2 ?_
  go_wp2_with fail
  rw [HW.out]
  clear HW
  refine (K0.out W1 (Below.refl _ _)).mono ?_
  rintro e w2 ⟨rfl, hb2⟩
  have HB2 := Lib.hid hb2
  clear hb2
  by_cases h200 : ls.length ≤ 200
  · have hd : decide ((ls.length : Int) > 200) = false := decide_eq_false (by omega)
    have hd2 : decide (200 < ls.length) = false := decide_eq_false (by omega)
    have HN := Lib.hid h200
    clear h200
    go_wp2_with fail
    refine (HC.out.new 200 w2 (by decide) (by decide)).mono ?_
    rintro e w3 ⟨b, F0, rfl, htk, hF0, hb3⟩
    have H3 : Hid (∃ F, FrI Tk W1 b 200 (putsE ls 0) F (.slice none 0 0) w3) := Lib.hid ⟨F0, ⟨htk, fun x hx => Nat.le_trans HB2.out.size (hF0 x hx), bT' HB2.out hb3 HB2.out.size⟩, World.ownsRow_nil _ _ _ _, fun g e => by cases e⟩
    clear htk hF0 hb3 hd hd2
    go_wp2
    go_loopw [9, 10] (fun mv iv wr => ∃ k : Nat, iv = .int .i64 (k : Int) ∧ k ≤ ls.length ∧ Hid (∃ F, FrI Tk W1 b 200 (putsE ls k) F mv wr)) (fun _ v _ => ls.length - (intOf v).toNat)
    case atStart => exact ⟨0, rfl, Nat.zero_le _, H3⟩
    case round =>
      clear H3
      obtain ⟨k, rfl, hk, HP⟩ := hrel
      obtain ⟨F, hP⟩ := HP.out
      obtain ⟨L, hL⟩ : ∃ L, putsE ls k = L := ⟨_, rfl⟩
      rw [hL] at hP
      obtain ⟨p, cp, rfl, hfl⟩ := RowE.form hP.row
      have hok := HC.out.ok hP.law.tk
      by_cases hlt : k < ls.length
      · have hkz : (k : Int) < (ls.length : Int) := by omega
        have hk0 : (0 : Int) ≤ (k : Int) := by omega
        have hri : IntKind.i64.wrap ((k : Int) + 1) = ((k + 1 : Nat) : Int) := by rw [IntKind.wrap_i64]; have := HN.out; omega
        obtain ⟨x, hx⟩ : ∃ x, ls[k]? = some x := ⟨_, List.getElem?_eq_getElem hlt⟩
        have hgd : ls.getD k (0, 0, 0) = x := by rw [List.getD_eq_getElem?_getD, hx]; rfl
        obtain ⟨g, off, rfl, e0, e1, e2⟩ := stampAt (H1.out.2.2.2.2.2.below hP.law.below) hx
        have hxI := HI.out.2.2 x (List.mem_of_getElem? hx)
        have HPU := Lib.hid (show putsE ls (k + 1) = putL 200 L x (k : Int) from by rw [← hL, ← hgd]; rfl)
        have HQ := Lib.hid (And.intro hP (And.intro hlt (And.intro hxI (And.intro hx hok))))
        clear hP hx hgd hxI hlt hk hL hok hfl
        go_wp2_with fail
        refine (of7_c _ _ _ _).mono ?_
        rintro e w5 ⟨rfl, hb5⟩
        have hP5 := HQ.out.1.keep HC.out hb5
        have KP := Lib.hid (HC.out.put x (k : Int) hP5.law.tk HQ.out.2.2.1 (by have := HN.out; have := HQ.out.2.1; constructor <;> omega))
        have H5 := Lib.hid hP5
        clear hb5 hP5 e0 e1 e2
        go_wp2_with fail
        refine (KP.out).mono ?_
        rintro e w6 ⟨rfl, F', hT6, hw6, hl6⟩
        have hlaw6 := H5.out.law.turn hT6 hw6 hl6
        have hrow6 := hl6.row H5.out.row H5.out.ap
        have hap6 := hw6.apart H5.out.row H5.out.ap
        obtain ⟨g', off', hgo, e0, e1, e2⟩ := stampAt (H1.out.2.2.2.2.2.below hlaw6.below) HQ.out.2.2.2.1
        obtain ⟨rfl, rfl⟩ : g = g' ∧ off = off' := by simpa using hgo
        have hf6 : FlatE w6 p L := by
          obtain ⟨p2, c2, he2, hf2⟩ := RowE.form hrow6
          obtain rfl : p = p2 := by simpa using (Value.slice.inj he2).1
          exact hf2
        have KR := Lib.hid (rput_c 200 L x (k : Int) p cp w6 (by decide) (by have := HQ.out.2.2.2.2.2.2.1; omega) HQ.out.2.2.1 (fun e he => (HQ.out.2.2.2.2.2.2.2.2 e he).1) hf6)
        have H6 := Lib.hid (And.intro hlaw6 (And.intro hrow6 hap6))
        clear hT6 hw6 hl6 hlaw6 hrow6 hap6 hgo hf6 KP
        go_wp2_with fail
        clear e0 e1 e2
        refine KR.out.mono ?_
        rintro e w7 ⟨hpp, hb7⟩
        have hlaw7 := H6.out.1.keep HC.out hb7
        by_cases h0 : putE 200 L x = 0
        · obtain ⟨v, rfl, hv⟩ : ∃ v, e = .returned (.tuple #[v, .int .i64 0]) ∧ RowE w7 w6.heap.size v (L ++ [(x, (k : Int))]) := by unfold putP at hpp; rwa [if_pos h0] at hpp
          have hE : putsE ls (k + 1) = L ++ [(x, (k : Int))] := by rw [HPU.out]; unfold putL; rw [if_pos h0]
          have HE : Hid (FrI Tk W1 b 200 (putsE ls (k + 1)) F' v w7) := Lib.hid ⟨by rw [HPU.out]; exact hlaw7, by rw [hE]; exact ownsRow_low hv H6.out.1.below.size, fun g e h => by
            have h1 := HC.out.lt H6.out.1.tk g h
            have h2 := (hv.lt g e).1
            omega⟩
          clear hpp hb7 hlaw7 h0 hv hE KR
          go_wp2
          exact ⟨⟨k + 1, rfl, HQ.out.2.1, Lib.hid ⟨F', HE.out⟩⟩, by have := HQ.out.2.1; simp [intOf]; omega⟩
        · obtain ⟨E, hEE⟩ : ∃ E, putE 200 L x = E := ⟨_, rfl⟩
          rw [hEE] at hpp h0
          obtain rfl : e = .returned (.tuple #[.slice p L.length cp, .int .i64 E]) := by unfold putP at hpp; rwa [if_neg h0] at hpp
          have hE : putsE ls (k + 1) = L := by rw [HPU.out]; unfold putL; rw [if_neg (by rw [hEE]; exact h0)]
          have HE : Hid (FrI Tk W1 b 200 (putsE ls (k + 1)) F' (.slice p L.length cp) w7) := Lib.hid ⟨by rw [HPU.out]; exact hlaw7, by rw [hE]; exact ownsRow_below H6.out.2.1 hb7, H6.out.2.2⟩
          clear hpp hb7 hlaw7 h0 hE hEE KR
          go_wp2
          exact ⟨⟨k + 1, rfl, HQ.out.2.1, Lib.hid ⟨F', HE.out⟩⟩, by have := HQ.out.2.1; simp [intOf]; omega⟩
      · obtain rfl : k = ls.length := by omega
        have hkz : ¬ ((ls.length : Int) < (ls.length : Int)) := by omega
        have HQ := Lib.hid (And.intro hP hok)
        have KP := Lib.hid (parts_c L s p cp wr (by have := hok.2.2.1; omega) HI.out.1 (fun e he => (hok.2.2.2.2 e he).1) (FlatE.in hfl))
        obtain ⟨x0, x1, x2⟩ := cells3 (kbE H1.out.2.1 hP.law.below) (Below.refl _ _)
        clear hP hok hfl hL HP hk hlt
        go_wp2_with fail
        clear x0 x1 x2
        refine KP.out.mono ?_
        rintro e w7 ⟨⟨ra, rb, rc, rfl, h3⟩, hb7⟩
        have hP7 := HQ.out.1.keep HC.out hb7
        have hfc : ∃ pc cc, rc = .slice pc (moreL L s).length cc ∧ FlatE w7 pc (moreL L s) := RowE.form h3.rc
        obtain ⟨pc, cc, rfl, hfc⟩ := hfc
        obtain ⟨v1, V1, hr1, ho1, hg1, hl1⟩ := appendE (B := wr.heap.size) (v := rb) (M := levL L s) (L := moreL L s) cc (w := w7) h3.rb hfc hb7.size (by
          have h1 : (levL L s).length ≤ L.length := List.length_filter_le _ _
          have h2 : (moreL L s).length ≤ L.length := List.length_filter_le _ _
          have := HQ.out.2.2.2.1
          omega)
        have hapb : Apart (fun x => F x) rb := fun g e h => by
          have h1 := HC.out.lt HQ.out.1.law.tk g h
          have h2 := (h3.rb.lt g e).1
          omega
        have hlaw1 := hP7.law.grow HC.out hg1 (fun g e => ⟨hapb g e, Nat.le_trans HQ.out.1.law.below.size (h3.rb.lt g e).1⟩)
        obtain ⟨U, hU⟩ : ∃ U, levL L s ++ moreL L s = U := ⟨_, rfl⟩
        obtain ⟨pb, cb, rfl, -⟩ := RowE.form h3.rb
        rw [hU] at ho1
        have hr1' := hr1
        obtain ⟨p1, c1, rfl, hf1⟩ := RowE.form ho1
        have hv1 : V1.heap.size ≥ wr.heap.size := Nat.le_trans hb7.size hg1.size
        obtain ⟨W9, hW9⟩ : ∃ W, V1.alloc (.cells #[.slice p1 U.length c1] 35) = W := ⟨_, rfl⟩
        obtain ⟨wb, hwb⟩ : ∃ y, V1.heap.size = y := ⟨_, rfl⟩
        have hb9 : Below V1.heap.size V1 W9 := hW9 ▸ bA' (Below.refl _ _) (Nat.le_refl _) _
        have hbox9 : W9.heap[wb]? = some (.cells #[.slice p1 U.length c1] 35 (0, 0)) := by rw [← hW9, ← hwb]; exact World.alloc_heap_new V1 _
        have hlaw9 := hlaw1.keep HC.out hb9
        have H9 := Lib.hid (And.intro hlaw9 (And.intro hbox9 (And.intro (hf1.keep hb9) hU)))
        have HW9 := Lib.hid (And.intro hW9 hwb)
        have HV1 := Lib.hid (show wr.heap.size ≤ wb from hwb ▸ hv1)
        obtain ⟨x0, x1, x2⟩ := cells3 (kbE H1.out.2.1 hlaw9.below) (Below.refl _ _)
        rw [← hW9] at x0 x1 x2
        clear hP7 hfc ho1 hg1 hl1 hapb hlaw1 h3 hb7 KP hr1' hf1 hv1 hW9 hwb hb9 hbox9 hlaw9 hU
        go_wp2_with (first | (at_builtin; refine wpList_append_run rfl (.tmp 61) (.tmp 62) 35 rfl rfl rfl hr1 ?_))
        rw [HW9.out.1]
        simp only [HW9.out.2]
        refine (r6right_c _ _ _ HI.out.1 _).mono ?_
        rintro e w10 ⟨rfl, hb10⟩
        have hlaw10 := H9.out.1.keep HC.out hb10
        have hbox10 := kbE H9.out.2.1 hb10
        clear x0 x1 x2
        by_cases hR : s.R = true
        · rw [show sRight s.1 s.2.1 s.2.2 = true from hR]
          have hlawX := hlaw10
          have hboxX := hbox10
          have hflX := H9.out.2.2.1.keep hb10
          have hUX : U = fromL L s := by unfold fromL; rw [if_pos hR]; exact H9.out.2.2.2.symm
          clear hlaw10 hbox10 hb10 hR
          obtain ⟨kb, hkb⟩ : ∃ y, (w10).heap.size = y := ⟨_, rfl⟩
          obtain ⟨W3, hW3⟩ : ∃ W, (w10).alloc (.cells #[.int .i64 0] 3) = W := ⟨_, rfl⟩
          have hbk : Below (w10).heap.size (w10) W3 := hW3 ▸ bA' (Below.refl _ _) (Nat.le_refl _) _
          have hs3 : W3.heap.size = kb + 1 := by rw [← hW3, World.size_alloc, hkb]
          have hK0 : Hid (KI W3 kb ((0 : Nat) : Int) W3) := Lib.hid ⟨⟨rfl, rfl, rfl, Nat.le_refl _, fun _ _ _ => rfl⟩, by rw [← hW3, ← hkb]; exact World.alloc_heap_new (w10) _⟩
          have HFG := Lib.hid (show ∀ i e, U[i]? = some e → ∃ g off, p1 = some ⟨g, off, none⟩ ∧ g < kb ∧ W3.cell? ⟨g, off + i * 4, none⟩ = some (.int .i64 e.1.1) ∧ W3.cell? ⟨g, off + i * 4 + 1, none⟩ = some (.int .i64 e.1.2.1) ∧ W3.cell? ⟨g, off + i * 4 + 2, none⟩ = some (.int .i64 e.1.2.2) ∧ W3.cell? ⟨g, off + i * 4 + 3, none⟩ = some (.int .i64 e.2) from fun i e hi => by
            obtain ⟨g, off, hp, e0, e1, e2, e3⟩ := hflX.in i e hi
            exact ⟨g, off, hp, by rw [← hkb]; exact World.block_lt_of_cell? _ _ e0, keepc hbk e0, keepc hbk e1, keepc hbk e2, keepc hbk e3⟩)
          have HX := Lib.hid (And.intro (hlawX.keep HC.out hbk) (And.intro (kbE hboxX hbk) (And.intro (hflX.keep hbk) (And.intro hUX (And.intro hs3 (show wb < kb from by rw [← hkb]; exact (Array.getElem?_eq_some_iff.1 hboxX).1))))))
          have HW3 := Lib.hid (And.intro hW3 hkb)
          obtain ⟨x0, x1, x2⟩ := cells3 (kbE H1.out.2.1 (hlawX.keep HC.out hbk).below) (Below.refl _ _)
          rw [← hW3] at x0 x1 x2
          clear hlawX hboxX hflX hUX hbk hs3 hW3 hkb
          go_wp2_with fail
          rw [HW3.out.1]
          (first | simp only [HW3.out.2] | simp only [show w10.heap.size = kb from by have := HW3.out.2; simpa using this])
          clear x0 x1 x2
          refine (of7_c _ _ _ _).mono ?_
          rintro e w11 ⟨rfl, hb11⟩
          have hlaw11 := HX.out.1.keep HC.out hb11
          have KF := Lib.hid (HFR.out w11 b 200 L F s hlaw11.tk HI.out.1)
          have HK11 := Lib.hid (And.intro (hK0.out.below hb11) (And.intro hlaw11 hb11.size))
          clear hb11 hlaw11
          go_wp2_with fail
          refine KF.out.mono ?_
          rintro e w12 ⟨gf, lb, rfl, EG, hb12, hseq⟩
          have HK12 := Lib.hid (And.intro (HK11.out.1.below hb12) (Nat.le_trans HK11.out.2.2 hb12.size))
          have HF : Hid (FrL w W1 W3 s stop wb kb p1 c1 U) := Lib.hid (by
            obtain ⟨hL, hwx, _, _, hs3, hwk⟩ := HX.out
            have hb3 := hL.below
            have hkb : W1.heap.size ≤ kb := by
              have h1 := (Array.getElem?_eq_some_iff.1 hwx).1
              have h2 := HV1.out
              have h3 := HQ.out.1.law.below.size
              omega
            exact ⟨kbE H1.out.2.2.1 hb3, kbE H1.out.2.2.2.1 hb3, hwx, HFG.out, ⟨by have := H1.out.2.2.2.2.1; omega, hwk, hs3⟩, bT' H1.out.1 hb3 H1.out.1.size⟩)
          have HU := Lib.hid HX.out.2.2.2.1
          obtain ⟨N, hN⟩ : ∃ N, U.length = N := ⟨_, rfl⟩
          have HLEN := Lib.hid hN
          have hN200 : N ≤ 200 := by
            have h1 : U.length ≤ L.length := by
              rw [HU.out]
              have hr := HQ.out.2.2.2.2.1
              by_cases hR : s.R = true
              · rw [show fromL L s = freeL L s from by unfold fromL freeL; rw [if_pos hR, if_pos hR]]
                have := congrArg List.length (free_split hr hR)
                rw [List.length_append] at this
                omega
              · unfold fromL
                rw [if_neg hR]
                exact Nat.zero_le _
            have h2 := HQ.out.2.2.2.1
            omega
          rw [← HU.out, hN] at hseq
          have HSEQ := Lib.hid hseq
          have hst255 := HI.out.2.1
          clear hseq hb12 KF hN
          go_wp2_with fail
          refine (wpIn_wide (n := 0)).1 ?_
          apply range_lawPb (gf := gf) (lb := lb) rfl EG HSEQ.out (fun _ => rfl)
            (fun hi k W => KI W3 kb (k : Int) W ∧ (k = 0 ∨ k < stop)) (fun c hi k W => c = .exit 2 ∧ KI W3 kb (k : Int) W ∧ k = max stop 1) ?hI ?hIx ?hIn ?h0
            (fun k bx W => W.heap[bx]? = some (.cells #[.int .i64 (gE U k).1.1, .int .i64 (gE U k).1.2.1, .int .i64 (gE U k).1.2.2] 33 (0, 0))) ?hPx _ ?assign ?body ?done ?stop
          case hI =>
            rintro hi k A C row ⟨h1, h2⟩ hgr hr
            exact ⟨KI.own (v := fun k => (k : Int)) HK12.out.1.lv.size (by have := HF.out.low; omega) k A C row h1 hgr hr, h2⟩
          case hIx =>
            rintro c hi k A C row ⟨h0, h1, h2⟩ hgr hr
            exact ⟨h0, KI.own (v := fun k => (k : Int)) HK12.out.1.lv.size (by have := HF.out.low; omega) k A C row h1 hgr hr, h2⟩
          case hIn =>
            rintro hi k A C hlo hhi ⟨h1, h2⟩ hin
            exact ⟨h1.inner hin (by have := HF.out.low; have := HK12.out.1.lv.size; omega) (by have := HK12.out.1.lv.size; omega), h2⟩
          case h0 =>
            intro W' hb' _
            exact ⟨HK12.out.1.below hb', .inl rfl⟩
          case hPx =>
            intro k bx s A C row hb hgr hr
            refine (hgr.block bx (Array.getElem?_eq_some_iff.1 hb).1 fun e => ?_).trans hb
            obtain ⟨_, o, ho, hc⟩ := hr bx e.symm
            rw [hb] at ho
            cases ho
            cases hc
          case assign =>
            rintro l hi k Wq K _ _ ⟨hj, hst⟩ hk hK
            have hbq := bA' (Below.refl Wq.heap.size Wq) (Nat.le_refl _) (.cells #[.int .i64 (gE U k).1.1, .int .i64 (gE U k).1.2.1, .int .i64 (gE U k).1.2.2] 33)
            have H9 := Lib.hid (And.intro hbq (And.intro (hj.below hbq) (And.intro hst (World.alloc_heap_new Wq (.cells #[.int .i64 (gE U k).1.1, .int .i64 (gE U k).1.2.1, .int .i64 (gE U k).1.2.2] 33)))))
            have HKK := Lib.hid hK
            clear hj hst hbq hK
            gi_wp2
            obtain ⟨g1, g2, g3, g4⟩ := H9.out
            obtain ⟨bx, hbx⟩ : ∃ bx, Wq.heap.size = bx := ⟨_, rfl⟩
            rw [hbx] at g4 ⊢
            exact HKK.out bx _ g1 ⟨g2, g3⟩ g4
          case body =>
            rintro l hi k bx W hlo hhi ⟨hj, hst⟩ hpx hk
            (try dsimp only)
            obtain ⟨y, hy⟩ : ∃ y, gE U k = y := ⟨_, rfl⟩
            rw [hy] at hpx ⊢
            have hfl := HF.out
            have hwant := (hj.lv.same _ (by have := hfl.low; omega) (by have := hfl.low; omega)).trans hfl.want
            rw [HLEN.out] at hwant
            have hstop := (hj.lv.same _ (by have := hfl.low; omega) (by have := hfl.low; omega)).trans hfl.st
            obtain ⟨g, off, hp, hgb, e0, e1, e2, e3⟩ := hfl.flat k y (by rw [gE_get (by rw [HLEN.out]; exact hk), hy])
            have hgk : ∀ j (u : Value), W3.cell? ⟨g, j, none⟩ = some u → W.cell? ⟨g, j, none⟩ = some u := fun j u hu => by
              rw [← hu]
              exact World.cell?_of_block (hj.lv.same g (World.block_lt_of_cell? _ _ hu) fun e => absurd (show g = kb from e) (by omega))
            replace e0 := hgk _ _ e0
            replace e1 := hgk _ _ e1
            replace e2 := hgk _ _ e2
            replace e3 := hgk _ _ e3
            obtain ⟨c0, f0⟩ := hj.cell
            have d0 : W.cell? ⟨wb, 0, none⟩ = some (.slice (some ⟨g, off, none⟩) N c1) := by rw [← hp]; unfold World.cell?; rw [hwant]; rfl
            obtain ⟨y0, y1, y2⟩ := cells3 hpx (Below.refl _ _)
            have hkN : decide ((k : Int) ≥ (N : Int)) = false := decide_eq_false (by omega)
            have hkN2 : decide (N ≤ k) = false := decide_eq_false (by omega)
            have hk0 : (0 : Int) ≤ (k : Int) := by omega
            have hkz : (k : Int) < (N : Int) := by omega
            have hnp : ∀ W : World, (binOp BinOp.neq 33 (.agg #[.int .i64 y.1.1, .int .i64 y.1.2.1, .int .i64 y.1.2.2]) (.agg #[.int .i64 y.1.1, .int .i64 y.1.2.1, .int .i64 y.1.2.2])).run Try.prog W = .ok (.bool false) W := fun W => by rw [neP7]; simp
            have hnn : (y.2 != y.2) = false := by simp
            have HJ := Lib.hid (And.intro hj (And.intro hst (And.intro hk (And.intro hlo (And.intro hhi hstop)))))
            clear hj hst hpx hk hlo hhi hstop hwant hfl hgk hp hgb hy
            gi_wp2_with fail
            refine region_round_held (S := (fun w' => w'.cell? ⟨kb, 0, none⟩ = some (.int .i64 (k : Int)) ∧ w'.cell? ⟨wb, 0, none⟩ = some (.slice (some ⟨g, off, none⟩) N c1) ∧ w'.cell? ⟨bx, 0, none⟩ = some (.int .i64 y.1.1) ∧ w'.cell? ⟨bx, 1, none⟩ = some (.int .i64 y.1.2.1) ∧ w'.cell? ⟨bx, 2, none⟩ = some (.int .i64 y.1.2.2) ∧ w'.cell? ⟨g, off + k * 4, none⟩ = some (.int .i64 y.1.1) ∧ w'.cell? ⟨g, off + k * 4 + 1, none⟩ = some (.int .i64 y.1.2.1) ∧ w'.cell? ⟨g, off + k * 4 + 2, none⟩ = some (.int .i64 y.1.2.2) ∧ w'.cell? ⟨g, off + k * 4 + 3, none⟩ = some (.int .i64 y.2) ∧ Below W.heap.size W w')) (by kernel_rfl) (by kernel_rfl) ?_ (fun hHeld => ?_)
            · try dsimp only
              exact ⟨c0, d0, y0, y1, y2, e0, e1, e2, e3, Below.drew (Below.refl _ W)⟩
            refine wpAnyH_take (i := 0) (oi := { dst := some 73, op := Go.Op.load 3 (Go.Operand.tmp 15), type := 3, pos := "law.go:166", after := #[], guard := none }) (v := ?_) rfl (by kernel_rfl) (by kernel_rfl) (by kernel_rfl) (fun _ _ _ h => h) (Or.inl ⟨by rfl, ?_⟩) (by assumption) ?_
            rotate_left
            · intro wS hSw
              (try dsimp only at hSw)
              first | (go_simp; done) | (go_simp; with_reducible rfl)
            try simp only [Act.put, List.setIfInBounds_toArray, List.set_cons_zero, List.set_cons_succ]
            refine wpAnyH_take (i := 1) (oi := { dst := some 74, op := Go.Op.load 35 (Go.Operand.tmp 14), type := 35, pos := "law.go:166", after := #[], guard := none }) (v := ?_) rfl (by kernel_rfl) (by kernel_rfl) (by kernel_rfl) (fun _ _ _ h => h) (Or.inl ⟨by rfl, ?_⟩) (by assumption) ?_
            rotate_left
            · intro wS hSw
              (try dsimp only at hSw)
              first | (go_simp; done) | (go_simp; with_reducible rfl)
            try simp only [Act.put, List.setIfInBounds_toArray, List.set_cons_zero, List.set_cons_succ]
            refine wpAnyH_take (i := 2) (oi := { dst := some 75, op := Go.Op.call { callee := Go.Callee.builtin Go.Builtin.len, args := #[Go.Operand.tmp 74], argTypes := #[35] }, type := 3, pos := "law.go:166", after := #[{ on := 1, ground := Go.Ground.data }], guard := none }) (v := ?_) rfl (by kernel_rfl) (by kernel_rfl) (by kernel_rfl) (fun _ _ _ h => h) (Or.inl ⟨by rfl, ?_⟩) (by assumption) ?_
            rotate_left
            · intro wS hSw
              (try dsimp only at hSw)
              first | (go_simp; done) | (go_simp; with_reducible rfl)
            try simp only [Act.put, List.setIfInBounds_toArray, List.set_cons_zero, List.set_cons_succ]
            refine wpAnyH_take (i := 3) (oi := { dst := some 76, op := Go.Op.binOp Go.BinOp.geq 3 (Go.Operand.tmp 73) (Go.Operand.tmp 75) 3, type := 4, pos := "law.go:166", after := #[{ on := 0, ground := Go.Ground.data }, { on := 2, ground := Go.Ground.data }], guard := none }) (v := ?_) rfl (by kernel_rfl) (by kernel_rfl) (by kernel_rfl) (fun _ _ _ h => h) (Or.inl ⟨by rfl, ?_⟩) (by assumption) ?_
            rotate_left
            · intro wS hSw
              (try dsimp only at hSw)
              first | (go_simp; done) | (go_simp; with_reducible rfl)
            try simp only [Act.put, List.setIfInBounds_toArray, List.set_cons_zero, List.set_cons_succ]
            refine wpAnyH_take (i := 4) (oi := { dst := some 77, op := Go.Op.move (Go.Operand.tmp 76), type := 4, pos := "law.go:166", after := #[{ on := 3, ground := Go.Ground.data }], guard := none }) (v := ?_) rfl (by kernel_rfl) (by kernel_rfl) (by kernel_rfl) (fun _ _ _ h => h) (Or.inl ⟨by rfl, ?_⟩) (by assumption) ?_
            rotate_left
            · intro wS hSw
              (try dsimp only at hSw)
              first | (go_simp; done) | (go_simp; with_reducible rfl)
            try simp only [Act.put, List.setIfInBounds_toArray, List.set_cons_zero, List.set_cons_succ]
            refine wpAnyH_take (i := 5) (oi := { dst := some 78, op := Go.Op.load 33 (Go.Operand.tmp 16), type := 33, pos := "law.go:166", after := #[{ on := 4, ground := Go.Ground.guard }], guard := some (4, false) }) (v := ?_) rfl (by kernel_rfl) (by kernel_rfl) (by kernel_rfl) (fun _ _ _ h => h) (Or.inl ⟨by rfl, ?_⟩) (by assumption) ?_
            rotate_left
            · intro wS hSw
              (try dsimp only at hSw)
              first | (go_simp; done) | (go_simp; with_reducible rfl)
            try simp only [Act.put, List.setIfInBounds_toArray, List.set_cons_zero, List.set_cons_succ]
            refine wpAnyH_take (i := 6) (oi := { dst := some 79, op := Go.Op.load 35 (Go.Operand.tmp 14), type := 35, pos := "law.go:166", after := #[{ on := 4, ground := Go.Ground.guard }], guard := some (4, false) }) (v := ?_) rfl (by kernel_rfl) (by kernel_rfl) (by kernel_rfl) (fun _ _ _ h => h) (Or.inl ⟨by rfl, ?_⟩) (by assumption) ?_
            rotate_left
            · intro wS hSw
              (try dsimp only at hSw)
              first | (go_simp; done) | (go_simp; with_reducible rfl)
            try simp only [Act.put, List.setIfInBounds_toArray, List.set_cons_zero, List.set_cons_succ]
            refine wpAnyH_take (i := 7) (oi := { dst := some 80, op := Go.Op.load 3 (Go.Operand.tmp 15), type := 3, pos := "law.go:166", after := #[{ on := 4, ground := Go.Ground.guard }], guard := some (4, false) }) (v := ?_) rfl (by kernel_rfl) (by kernel_rfl) (by kernel_rfl) (fun _ _ _ h => h) (Or.inl ⟨by rfl, ?_⟩) (by assumption) ?_
            rotate_left
            · intro wS hSw
              (try dsimp only at hSw)
              first | (go_simp; done) | (go_simp; with_reducible rfl)
            try simp only [Act.put, List.setIfInBounds_toArray, List.set_cons_zero, List.set_cons_succ]
            refine wpAnyH_take (i := 8) (oi := { dst := some 81, op := Go.Op.indexAddr 35 (Go.Operand.tmp 79) (Go.Operand.tmp 80), type := 0, pos := "law.go:166", after := #[{ on := 6, ground := Go.Ground.data }, { on := 7, ground := Go.Ground.data }, { on := 4, ground := Go.Ground.guard }], guard := some (4, false) }) (v := ?_) rfl (by kernel_rfl) (by kernel_rfl) (by kernel_rfl) (fun _ _ _ h => h) (Or.inl ⟨by rfl, ?_⟩) (by assumption) ?_
            rotate_left
            · intro wS hSw
              (try dsimp only at hSw)
              first | (go_simp; done) | (go_simp; with_reducible rfl)
            try simp only [Act.put, List.setIfInBounds_toArray, List.set_cons_zero, List.set_cons_succ]
            refine wpAnyH_take (i := 9) (oi := { dst := some 82, op := Go.Op.fieldAddr 52 (Go.Operand.tmp 81) 0, type := 0, pos := "law.go:166", after := #[{ on := 8, ground := Go.Ground.data }, { on := 4, ground := Go.Ground.guard }], guard := some (4, false) }) (v := ?_) rfl (by kernel_rfl) (by kernel_rfl) (by kernel_rfl) (fun _ _ _ h => h) (Or.inl ⟨by rfl, ?_⟩) (by assumption) ?_
            rotate_left
            · intro wS hSw
              (try dsimp only at hSw)
              first | (go_simp; done) | (go_simp; with_reducible rfl)
            try simp only [Act.put, List.setIfInBounds_toArray, List.set_cons_zero, List.set_cons_succ]
            refine wpAnyH_take (i := 10) (oi := { dst := some 83, op := Go.Op.load 26 (Go.Operand.tmp 82), type := 26, pos := "law.go:166", after := #[{ on := 9, ground := Go.Ground.data }, { on := 4, ground := Go.Ground.guard }], guard := some (4, false) }) (v := ?_) rfl (by kernel_rfl) (by kernel_rfl) (by kernel_rfl) (fun _ _ _ h => h) (Or.inl ⟨by rfl, ?_⟩) (by assumption) ?_
            rotate_left
            · intro wS hSw
              (try dsimp only at hSw)
              first | (go_simp; done) | (go_simp; with_reducible rfl)
            try simp only [Act.put, List.setIfInBounds_toArray, List.set_cons_zero, List.set_cons_succ]
            refine wpAnyH_ready (rs := [11]) (by kernel_rfl) (by simp) ?_
            refine AllReadyH.cons (o := { dst := some 84, op := Go.Op.call { callee := Go.Callee.value (Go.Operand.func 11), args := #[Go.Operand.tmp 83], argTypes := #[26] }, type := 33, pos := "law.go:166", after := #[{ on := 10, ground := Go.Ground.data }, { on := 4, ground := Go.Ground.chain }, { on := 4, ground := Go.Ground.guard }], guard := some (4, false) }) rfl (fun K hK => ?_) AllReadyH.nil
            go_simp
            refine (of7_c _ _ _ _).mono ?_
            rintro e w9 ⟨rfl, hb⟩
            (try go_wp2_with fail)
            refine hK.out _ _ ?_ (fun hHeld => ?_)
            · try dsimp only
              (go_split_ands; with_reducible exact ⟨keepc hb (by assumption), keepc hb (by assumption), keepc hb (by assumption), keepc hb (by assumption), keepc hb (by assumption), keepc hb (by assumption), keepc hb (by assumption), keepc hb (by assumption), keepc hb (by assumption), belowT (by assumption) hb⟩)
            clear hK K
            try simp only [Act.put, List.setIfInBounds_toArray, List.set_cons_zero, List.set_cons_succ]
            refine wpAnyH_take (i := 12) (oi := { dst := some 85, op := Go.Op.binOp Go.BinOp.neq 33 (Go.Operand.tmp 78) (Go.Operand.tmp 84) 33, type := 4, pos := "law.go:166", after := #[{ on := 5, ground := Go.Ground.data }, { on := 11, ground := Go.Ground.data }, { on := 4, ground := Go.Ground.guard }], guard := some (4, false) }) (v := ?_) rfl (by kernel_rfl) (by kernel_rfl) (by kernel_rfl) (fun _ _ _ h => h) (Or.inl ⟨by rfl, ?_⟩) (by assumption) ?_
            rotate_left
            · intro wS hSw
              (try dsimp only at hSw)
              first | (go_simp; done) | (go_simp; with_reducible rfl)
            try simp only [Act.put, List.setIfInBounds_toArray, List.set_cons_zero, List.set_cons_succ]
            refine wpAnyH_take (i := 13) (oi := { dst := some 86, op := Go.Op.pick (Go.Operand.tmp 77) (Go.Operand.const (Go.Value.bool true)) (Go.Operand.tmp 85), type := 4, pos := "law.go:166", after := #[{ on := 4, ground := Go.Ground.data }, { on := 12, ground := Go.Ground.data }], guard := none }) (v := ?_) rfl (by kernel_rfl) (by kernel_rfl) (by kernel_rfl) (fun _ _ _ h => h) (Or.inl ⟨by rfl, ?_⟩) (by assumption) ?_
            rotate_left
            · intro wS hSw
              (try dsimp only at hSw)
              first | (go_simp; done) | (go_simp; with_reducible rfl)
            try simp only [Act.put, List.setIfInBounds_toArray, List.set_cons_zero, List.set_cons_succ]
            refine wpAnyH_take (i := 14) (oi := { dst := some 87, op := Go.Op.move (Go.Operand.tmp 86), type := 4, pos := "law.go:166", after := #[{ on := 13, ground := Go.Ground.data }, { on := 11, ground := Go.Ground.chain }], guard := none }) (v := ?_) rfl (by kernel_rfl) (by kernel_rfl) (by kernel_rfl) (fun _ _ _ h => h) (Or.inl ⟨by rfl, ?_⟩) (by assumption) ?_
            rotate_left
            · intro wS hSw
              (try dsimp only at hSw)
              first | (go_simp; done) | (go_simp; with_reducible rfl)
            try simp only [Act.put, List.setIfInBounds_toArray, List.set_cons_zero, List.set_cons_succ]
            refine wpAnyH_take (i := 15) (oi := { dst := some 88, op := Go.Op.move (Go.Operand.tmp 17), type := 3, pos := "law.go:166", after := #[{ on := 14, ground := Go.Ground.guard }], guard := some (14, false) }) (v := ?_) rfl (by kernel_rfl) (by kernel_rfl) (by kernel_rfl) (fun _ _ _ h => h) (Or.inl ⟨by rfl, ?_⟩) (by assumption) ?_
            rotate_left
            · intro wS hSw
              (try dsimp only at hSw)
              first | (go_simp; done) | (go_simp; with_reducible rfl)
            try simp only [Act.put, List.setIfInBounds_toArray, List.set_cons_zero, List.set_cons_succ]
            refine wpAnyH_take (i := 16) (oi := { dst := some 89, op := Go.Op.load 35 (Go.Operand.tmp 14), type := 35, pos := "law.go:166", after := #[{ on := 14, ground := Go.Ground.guard }], guard := some (14, false) }) (v := ?_) rfl (by kernel_rfl) (by kernel_rfl) (by kernel_rfl) (fun _ _ _ h => h) (Or.inl ⟨by rfl, ?_⟩) (by assumption) ?_
            rotate_left
            · intro wS hSw
              (try dsimp only at hSw)
              first | (go_simp; done) | (go_simp; with_reducible rfl)
            try simp only [Act.put, List.setIfInBounds_toArray, List.set_cons_zero, List.set_cons_succ]
            refine wpAnyH_take (i := 17) (oi := { dst := some 90, op := Go.Op.load 3 (Go.Operand.tmp 15), type := 3, pos := "law.go:166", after := #[{ on := 14, ground := Go.Ground.guard }], guard := some (14, false) }) (v := ?_) rfl (by kernel_rfl) (by kernel_rfl) (by kernel_rfl) (fun _ _ _ h => h) (Or.inl ⟨by rfl, ?_⟩) (by assumption) ?_
            rotate_left
            · intro wS hSw
              (try dsimp only at hSw)
              first | (go_simp; done) | (go_simp; with_reducible rfl)
            try simp only [Act.put, List.setIfInBounds_toArray, List.set_cons_zero, List.set_cons_succ]
            refine wpAnyH_take (i := 18) (oi := { dst := some 91, op := Go.Op.indexAddr 35 (Go.Operand.tmp 89) (Go.Operand.tmp 90), type := 0, pos := "law.go:166", after := #[{ on := 16, ground := Go.Ground.data }, { on := 17, ground := Go.Ground.data }, { on := 14, ground := Go.Ground.guard }], guard := some (14, false) }) (v := ?_) rfl (by kernel_rfl) (by kernel_rfl) (by kernel_rfl) (fun _ _ _ h => h) (Or.inl ⟨by rfl, ?_⟩) (by assumption) ?_
            rotate_left
            · intro wS hSw
              (try dsimp only at hSw)
              first | (go_simp; done) | (go_simp; with_reducible rfl)
            try simp only [Act.put, List.setIfInBounds_toArray, List.set_cons_zero, List.set_cons_succ]
            refine wpAnyH_take (i := 19) (oi := { dst := some 92, op := Go.Op.fieldAddr 52 (Go.Operand.tmp 91) 1, type := 0, pos := "law.go:166", after := #[{ on := 18, ground := Go.Ground.data }, { on := 14, ground := Go.Ground.guard }], guard := some (14, false) }) (v := ?_) rfl (by kernel_rfl) (by kernel_rfl) (by kernel_rfl) (fun _ _ _ h => h) (Or.inl ⟨by rfl, ?_⟩) (by assumption) ?_
            rotate_left
            · intro wS hSw
              (try dsimp only at hSw)
              first | (go_simp; done) | (go_simp; with_reducible rfl)
            try simp only [Act.put, List.setIfInBounds_toArray, List.set_cons_zero, List.set_cons_succ]
            refine wpAnyH_take (i := 20) (oi := { dst := some 93, op := Go.Op.load 3 (Go.Operand.tmp 92), type := 3, pos := "law.go:166", after := #[{ on := 19, ground := Go.Ground.data }, { on := 14, ground := Go.Ground.guard }], guard := some (14, false) }) (v := ?_) rfl (by kernel_rfl) (by kernel_rfl) (by kernel_rfl) (fun _ _ _ h => h) (Or.inl ⟨by rfl, ?_⟩) (by assumption) ?_
            rotate_left
            · intro wS hSw
              (try dsimp only at hSw)
              first | (go_simp; done) | (go_simp; with_reducible rfl)
            try simp only [Act.put, List.setIfInBounds_toArray, List.set_cons_zero, List.set_cons_succ]
            refine wpAnyH_take (i := 21) (oi := { dst := some 94, op := Go.Op.binOp Go.BinOp.neq 3 (Go.Operand.tmp 88) (Go.Operand.tmp 93) 3, type := 4, pos := "law.go:166", after := #[{ on := 15, ground := Go.Ground.data }, { on := 20, ground := Go.Ground.data }, { on := 14, ground := Go.Ground.guard }], guard := some (14, false) }) (v := ?_) rfl (by kernel_rfl) (by kernel_rfl) (by kernel_rfl) (fun _ _ _ h => h) (Or.inl ⟨by rfl, ?_⟩) (by assumption) ?_
            rotate_left
            · intro wS hSw
              (try dsimp only at hSw)
              first | (go_simp; done) | (go_simp; with_reducible rfl)
            try simp only [Act.put, List.setIfInBounds_toArray, List.set_cons_zero, List.set_cons_succ]
            refine wpAnyH_take (i := 22) (oi := { dst := some 95, op := Go.Op.pick (Go.Operand.tmp 87) (Go.Operand.const (Go.Value.bool true)) (Go.Operand.tmp 94), type := 4, pos := "law.go:166", after := #[{ on := 14, ground := Go.Ground.data }, { on := 21, ground := Go.Ground.data }], guard := none }) (v := ?_) rfl (by kernel_rfl) (by kernel_rfl) (by kernel_rfl) (fun _ _ _ h => h) (Or.inl ⟨by rfl, ?_⟩) (by assumption) ?_
            rotate_left
            · intro wS hSw
              (try dsimp only at hSw)
              first | (go_simp; done) | (go_simp; with_reducible rfl)
            try simp only [Act.put, List.setIfInBounds_toArray, List.set_cons_zero, List.set_cons_succ]
            refine wpAnyH_done (by kernel_rfl) ?_ _
            refine NoOut.normal ?_
            go_split_ands
            have hb9 : Below W.heap.size W w9 := by with_reducible assumption
            obtain ⟨hj, hst, hk, hlo, hhi, hstop⟩ := HJ.out
            have hj9 := hj.below hb9
            obtain ⟨c9, f9⟩ := hj9.cell
            have hs9 := kbE hstop hb9
            have hne : w.heap.size + 1 ≠ kb := by have := HF.out.low; omega
            have hwr : IntKind.i64.wrap ((k : Int) + 1) = (k : Int) + 1 := by rw [IntKind.wrap_i64] <;> omega
            have hws : IntKind.i64.wrap (stop : Int) = (stop : Int) := by rw [IntKind.wrap_i64] <;> omega
            have cs2 : (w9.setCell ⟨kb, 0, none⟩ (.int .i64 ((k : Int) + 1))).cell? ⟨w.heap.size + 1, 0, none⟩ = some (.int .u8 (stop : Int)) := by
              rw [World.cell?_of_block (heap_setCell_other w9 ⟨kb, 0, none⟩ (w.heap.size + 1) _ hne)]
              unfold World.cell?
              rw [hs9]
              rfl
            have hk9 : KI W3 kb (((k + 1 : Nat) : Int)) (w9.setCell ⟨kb, 0, none⟩ (.int .i64 ((k : Int) + 1))) := by
              rw [show ((k + 1 : Nat) : Int) = (k : Int) + 1 from by omega]
              exact hj9.set _
            have hkbl : kb < w12.heap.size := by have := HF.out.low; have := HK12.out.1.lv.size; omega
            have HE9 := Lib.hid (And.intro hk9 (And.intro (show KeepsFrom w12.heap.size W (w9.setCell ⟨kb, 0, none⟩ (.int .i64 ((k : Int) + 1))) from (below_from hb9).trans (from_set' _ _ hkbl)) (show Kp (fun _ => False) (w12.heap.size + 2) hi W (w9.setCell ⟨kb, 0, none⟩ (.int .i64 ((k : Int) + 1))) from (Kp.below hb9).trans (kp_set' _ _ (by omega)))))
            clear hb9 hj9 hs9 hk9 hj hlo hhi hstop c0 d0 y0 y1 y2 e0 e1 e2 e3
            by_cases hsp : (stop : Int) ≤ (k : Int) + 1
            · have hd : decide ((k : Int) + 1 ≥ (stop : Int)) = true := decide_eq_true hsp
              have HM := Lib.hid (show k + 1 = max stop 1 from by omega)
              clear hst hsp hk
              gi_wp2
              exact ⟨HE9.out.2.1, rfl, HE9.out.1, HM.out⟩
            · have hd : decide ((k : Int) + 1 ≥ (stop : Int)) = false := decide_eq_false hsp
              have HM := Lib.hid (show k + 1 < stop from by omega)
              clear hst hsp hk
              gi_wp2
              exact ⟨HE9.out.2.1, HE9.out.2.2, HE9.out.1, .inr HM.out⟩
          case done =>
            rintro D hi W hD _ ⟨hj, _⟩ hdef
            have hfl := HF.out
            have hst := (hj.lv.same _ (by have := hfl.low; omega) (by have := hfl.low; omega)).trans hfl.st
            have hres := (hj.lv.same _ (by have := hfl.low; omega) (by have := hfl.low; omega)).trans hfl.res
            have hwant := (hj.lv.same _ (by have := hfl.low; omega) (by have := hfl.low; omega)).trans hfl.want
            rw [HLEN.out] at hwant
            obtain ⟨cn, fn⟩ := hj.cell
            have cS : W.cell? ⟨w.heap.size + 1, 0, none⟩ = some (.int .u8 (stop : Int)) := by unfold World.cell?; rw [hst]; rfl
            have cE : W.cell? ⟨w.heap.size + 1 + 1, 0, none⟩ = some (.bool false) := by unfold World.cell?; rw [hres]; rfl
            have fE := frozen_of_row _ (w.heap.size + 1 + 1) 0 _ _ hres
            have cW : W.cell? ⟨wb, 0, none⟩ = some (.slice p1 N c1) := by unfold World.cell?; rw [hwant]; rfl
            have hws : IntKind.i64.wrap (stop : Int) = (stop : Int) := by have := HI.out.2.1; rw [IntKind.wrap_i64] <;> omega
            have hbW : Below w.heap.size w W := hj.under (by have := hfl.low; omega) hfl.below
            have hDl : kb < D := by have := hfl.low; have := HK12.out.1.lv.size; omega
            have HX2 := Lib.hid (And.intro (heap_setCell_same _ (w.heap.size + 1 + 1) 0 _ _ (.bool true) hres) (And.intro (below_set hbW (show w.heap.size ≤ w.heap.size + 1 + 1 by omega) (.bool true)) (And.intro ((heap_setCell_other _ ⟨w.heap.size + 1 + 1, 0, none⟩ D (.bool true) (by show D ≠ w.heap.size + 1 + 1; have := hfl.low; omega)).trans hdef) (show w.heap.size ≤ D ∧ D ≠ w.heap.size + 1 + 1 from ⟨by have := hfl.low; omega, by have := hfl.low; omega⟩))))
            clear hfl hst hres hwant hbW hDl hdef hD hj
            have hzz : ((N : Int) == (N : Int)) = true := beq_self_eq_true _
            go_wp2
            all_goals first
              | (rename_i x b h1 h2; simp [undef] at h1; done)
              | (refine ⟨by simp, .inl ⟨_, _, rfl, run_takeDeferred HX2.out.2.2.1, ?_⟩⟩
                 obtain ⟨hX1, hbe, hX3, hD1, hD2⟩ := HX2.out
                 have h0 : ((W.setCell ⟨w.heap.size + 1 + 1, 0, none⟩ (.bool true)).putObj D (.deferred none)).heap[w.heap.size + 1 + 1]? = some (.cells #[.bool true] 4 (0, 0)) := (World.putObj_heap_other (by omega)).trans hX1
                 have h : ((W.setCell ⟨w.heap.size + 1 + 1, 0, none⟩ (.bool true)).putObj D (.deferred none)).cell? ⟨w.heap.size + 1 + 1, 0, none⟩ = some (.bool true) := by unfold World.cell?; rw [h0]; rfl
                 refine ⟨.bool true, ?_, rfl, hbe.os, hbe.tape, hbe.output, by simpa using hbe.size, fun j hj => (World.putObj_heap_other (by omega)).trans (hbe.block j hj)⟩
                 simp [results, Try.results5, go_sem, h])
          case stop =>
            rintro D hi c k W hD _ hk ⟨rfl, hj, hm⟩ hdef
            have hfl := HF.out
            have hst := (hj.lv.same _ (by have := hfl.low; omega) (by have := hfl.low; omega)).trans hfl.st
            have hres := (hj.lv.same _ (by have := hfl.low; omega) (by have := hfl.low; omega)).trans hfl.res
            have hwant := (hj.lv.same _ (by have := hfl.low; omega) (by have := hfl.low; omega)).trans hfl.want
            rw [HLEN.out] at hwant
            obtain ⟨cn, fn⟩ := hj.cell
            have cS : W.cell? ⟨w.heap.size + 1, 0, none⟩ = some (.int .u8 (stop : Int)) := by unfold World.cell?; rw [hst]; rfl
            have cE : W.cell? ⟨w.heap.size + 1 + 1, 0, none⟩ = some (.bool false) := by unfold World.cell?; rw [hres]; rfl
            have fE := frozen_of_row _ (w.heap.size + 1 + 1) 0 _ _ hres
            have cW : W.cell? ⟨wb, 0, none⟩ = some (.slice p1 N c1) := by unfold World.cell?; rw [hwant]; rfl
            have hws : IntKind.i64.wrap (stop : Int) = (stop : Int) := by have := HI.out.2.1; rw [IntKind.wrap_i64] <;> omega
            have hbW : Below w.heap.size w W := hj.under (by have := hfl.low; omega) hfl.below
            have hDl : kb < D := by have := hfl.low; have := HK12.out.1.lv.size; omega
            have HX2 := Lib.hid (And.intro (heap_setCell_same _ (w.heap.size + 1 + 1) 0 _ _ (.bool true) hres) (And.intro (below_set hbW (show w.heap.size ≤ w.heap.size + 1 + 1 by omega) (.bool true)) (And.intro ((heap_setCell_other _ ⟨w.heap.size + 1 + 1, 0, none⟩ D (.bool true) (by show D ≠ w.heap.size + 1 + 1; have := hfl.low; omega)).trans hdef) (show w.heap.size ≤ D ∧ D ≠ w.heap.size + 1 + 1 from ⟨by have := hfl.low; omega, by have := hfl.low; omega⟩))))
            clear hfl hst hres hwant hbW hDl hdef hD hj
            refine wpIn_wide.2 ?_
            by_cases hkN : k = N
            · subst hkN
              have hzz : ((k : Int) == (k : Int)) = true := beq_self_eq_true _
              go_wp2
              all_goals first
                | (rename_i x b h1 h2; simp [undef] at h1; done)
                | (refine ⟨by simp, .inl ⟨_, _, rfl, run_takeDeferred HX2.out.2.2.1, ?_⟩⟩
                   obtain ⟨hX1, hbe, hX3, hD1, hD2⟩ := HX2.out
                   have h0 : ((W.setCell ⟨w.heap.size + 1 + 1, 0, none⟩ (.bool true)).putObj D (.deferred none)).heap[w.heap.size + 1 + 1]? = some (.cells #[.bool true] 4 (0, 0)) := (World.putObj_heap_other (by omega)).trans hX1
                   have h : ((W.setCell ⟨w.heap.size + 1 + 1, 0, none⟩ (.bool true)).putObj D (.deferred none)).cell? ⟨w.heap.size + 1 + 1, 0, none⟩ = some (.bool true) := by unfold World.cell?; rw [h0]; rfl
                   refine ⟨.bool true, ?_, rfl, hbe.os, hbe.tape, hbe.output, by simpa using hbe.size, fun j hj => (World.putObj_heap_other (by omega)).trans (hbe.block j hj)⟩
                   simp [results, Try.results5, go_sem, h])
            · have hz1 : ((k : Int) == (N : Int)) = false := beq_eq_false_iff_ne.2 (by omega)
              have hz2 : (k : Int) < (N : Int) := by omega
              have hz3 : ((max stop 1 : Nat) : Int) = max (stop : Int) 1 := by omega
              subst hm
              go_wp2
              refine ⟨by simp, .inl ⟨_, _, rfl, run_takeDeferred HX2.out.2.2.1, ?_⟩⟩
              obtain ⟨hX1, hbe, hX3, hD1, hD2⟩ := HX2.out
              have h0 : ((W.setCell ⟨w.heap.size + 1 + 1, 0, none⟩ (.bool true)).putObj D (.deferred none)).heap[w.heap.size + 1 + 1]? = some (.cells #[.bool true] 4 (0, 0)) := (World.putObj_heap_other (by omega)).trans hX1
              have h : ((W.setCell ⟨w.heap.size + 1 + 1, 0, none⟩ (.bool true)).putObj D (.deferred none)).cell? ⟨w.heap.size + 1 + 1, 0, none⟩ = some (.bool true) := by unfold World.cell?; rw [h0]; rfl
              refine ⟨.bool true, ?_, rfl, hbe.os, hbe.tape, hbe.output, by simpa using hbe.size, fun j hj => (World.putObj_heap_other (by omega)).trans (hbe.block j hj)⟩
              simp [results, Try.results5, go_sem, h]
        · rw [show sRight s.1 s.2.1 s.2.2 = false from Bool.eq_false_iff.2 hR]
          have y0 : w10.cell? ⟨wb, 0, none⟩ = some (.slice p1 U.length c1) := by unfold World.cell?; rw [hbox10]; rfl
          have y1 := frozen_of_row _ wb 0 _ _ hbox10
          have hlvX : Leaves (fun y => y = wb) w10 (w10.setCell ⟨wb, 0, none⟩ (.slice none 0 0)) := ⟨rfl, rfl, rfl, by simp, fun z hz hn => heap_setCell_other _ ⟨wb, 0, none⟩ z _ hn⟩
          have hwbF : ∀ y, F y → y ≠ wb := fun y hy e => by
            have h1 := HC.out.lt HQ.out.1.law.tk y hy
            have h2 := HV1.out
            omega
          have hlawX : Law Tk W1 b 200 L F (w10.setCell ⟨wb, 0, none⟩ (.slice none 0 0)) := ⟨HC.out.keep hlaw10.tk hlvX.size (fun y hy => hlvX.same y (HC.out.lt hlaw10.tk y hy) (hwbF y hy)), hlaw10.lo, hlvX.below (fun y e => by
            have h1 := HQ.out.1.law.below.size
            have h2 := HV1.out
            omega) hlaw10.below⟩
          have hboxX : (w10.setCell ⟨wb, 0, none⟩ (.slice none 0 0)).heap[wb]? = some (.cells #[.slice none ([] : List En).length 0] 35 (0, 0)) := heap_setCell_same _ wb 0 _ _ _ hbox10
          have hflX : FlatE (w10.setCell ⟨wb, 0, none⟩ (.slice none 0 0)) none [] := .inl rfl
          have hUX : ([] : List En) = fromL L s := by unfold fromL; rw [if_neg hR]
          clear hlaw10 hbox10 hb10 hR hlvX hwbF
          obtain ⟨U, hU2⟩ : ∃ U : List En, [] = U := ⟨_, rfl⟩
          obtain ⟨p1, hp2⟩ : ∃ p : Option Addr, none = p := ⟨_, rfl⟩
          obtain ⟨c1, hc2⟩ : ∃ c : Nat, 0 = c := ⟨_, rfl⟩
          replace hUX : U = fromL L s := by rw [← hU2]; exact hUX
          replace hflX : FlatE (w10.setCell ⟨wb, 0, none⟩ (.slice none 0 0)) p1 U := .inl hU2.symm
          replace hboxX : (w10.setCell ⟨wb, 0, none⟩ (.slice none 0 0)).heap[wb]? = some (.cells #[.slice p1 U.length c1] 35 (0, 0)) := by
            rw [← hU2, ← hp2, ← hc2]
            exact hboxX
          clear hU2 hp2 hc2
          obtain ⟨kb, hkb⟩ : ∃ y, (w10.setCell ⟨wb, 0, none⟩ (.slice none 0 0)).heap.size = y := ⟨_, rfl⟩
          obtain ⟨W3, hW3⟩ : ∃ W, (w10.setCell ⟨wb, 0, none⟩ (.slice none 0 0)).alloc (.cells #[.int .i64 0] 3) = W := ⟨_, rfl⟩
          have hbk : Below (w10.setCell ⟨wb, 0, none⟩ (.slice none 0 0)).heap.size (w10.setCell ⟨wb, 0, none⟩ (.slice none 0 0)) W3 := hW3 ▸ bA' (Below.refl _ _) (Nat.le_refl _) _
          have hs3 : W3.heap.size = kb + 1 := by rw [← hW3, World.size_alloc, hkb]
          have hK0 : Hid (KI W3 kb ((0 : Nat) : Int) W3) := Lib.hid ⟨⟨rfl, rfl, rfl, Nat.le_refl _, fun _ _ _ => rfl⟩, by rw [← hW3, ← hkb]; exact World.alloc_heap_new (w10.setCell ⟨wb, 0, none⟩ (.slice none 0 0)) _⟩
          have HFG := Lib.hid (show ∀ i e, U[i]? = some e → ∃ g off, p1 = some ⟨g, off, none⟩ ∧ g < kb ∧ W3.cell? ⟨g, off + i * 4, none⟩ = some (.int .i64 e.1.1) ∧ W3.cell? ⟨g, off + i * 4 + 1, none⟩ = some (.int .i64 e.1.2.1) ∧ W3.cell? ⟨g, off + i * 4 + 2, none⟩ = some (.int .i64 e.1.2.2) ∧ W3.cell? ⟨g, off + i * 4 + 3, none⟩ = some (.int .i64 e.2) from fun i e hi => by
            obtain ⟨g, off, hp, e0, e1, e2, e3⟩ := hflX.in i e hi
            exact ⟨g, off, hp, by rw [← hkb]; exact World.block_lt_of_cell? _ _ e0, keepc hbk e0, keepc hbk e1, keepc hbk e2, keepc hbk e3⟩)
          have HX := Lib.hid (And.intro (hlawX.keep HC.out hbk) (And.intro (kbE hboxX hbk) (And.intro (hflX.keep hbk) (And.intro hUX (And.intro hs3 (show wb < kb from by rw [← hkb]; exact (Array.getElem?_eq_some_iff.1 hboxX).1))))))
          have HW3 := Lib.hid (And.intro hW3 hkb)
          obtain ⟨x0, x1, x2⟩ := cells3 (kbE H1.out.2.1 (hlawX.keep HC.out hbk).below) (Below.refl _ _)
          rw [← hW3] at x0 x1 x2
          clear hlawX hboxX hflX hUX hbk hs3 hW3 hkb
          go_wp2_with fail
          rw [HW3.out.1]
          (first | simp only [HW3.out.2] | simp only [show w10.heap.size = kb from by have := HW3.out.2; simpa using this])
          clear x0 x1 x2
          refine (of7_c _ _ _ _).mono ?_
          rintro e w11 ⟨rfl, hb11⟩
          have hlaw11 := HX.out.1.keep HC.out hb11
          have KF := Lib.hid (HFR.out w11 b 200 L F s hlaw11.tk HI.out.1)
          have HK11 := Lib.hid (And.intro (hK0.out.below hb11) (And.intro hlaw11 hb11.size))
          clear hb11 hlaw11
          go_wp2_with fail
          refine KF.out.mono ?_
          rintro e w12 ⟨gf, lb, rfl, EG, hb12, hseq⟩
          have HK12 := Lib.hid (And.intro (HK11.out.1.below hb12) (Nat.le_trans HK11.out.2.2 hb12.size))
          have HF : Hid (FrL w W1 W3 s stop wb kb p1 c1 U) := Lib.hid (by
            obtain ⟨hL, hwx, _, _, hs3, hwk⟩ := HX.out
            have hb3 := hL.below
            have hkb : W1.heap.size ≤ kb := by
              have h1 := (Array.getElem?_eq_some_iff.1 hwx).1
              have h2 := HV1.out
              have h3 := HQ.out.1.law.below.size
              omega
            exact ⟨kbE H1.out.2.2.1 hb3, kbE H1.out.2.2.2.1 hb3, hwx, HFG.out, ⟨by have := H1.out.2.2.2.2.1; omega, hwk, hs3⟩, bT' H1.out.1 hb3 H1.out.1.size⟩)
          have HU := Lib.hid HX.out.2.2.2.1
          obtain ⟨N, hN⟩ : ∃ N, U.length = N := ⟨_, rfl⟩
          have HLEN := Lib.hid hN
          have hN200 : N ≤ 200 := by
            have h1 : U.length ≤ L.length := by
              rw [HU.out]
              have hr := HQ.out.2.2.2.2.1
              by_cases hR : s.R = true
              · rw [show fromL L s = freeL L s from by unfold fromL freeL; rw [if_pos hR, if_pos hR]]
                have := congrArg List.length (free_split hr hR)
                rw [List.length_append] at this
                omega
              · unfold fromL
                rw [if_neg hR]
                exact Nat.zero_le _
            have h2 := HQ.out.2.2.2.1
            omega
          rw [← HU.out, hN] at hseq
          have HSEQ := Lib.hid hseq
          have hst255 := HI.out.2.1
          clear hseq hb12 KF hN
          go_wp2_with fail
          refine (wpIn_wide (n := 0)).1 ?_
          apply range_lawPb (gf := gf) (lb := lb) rfl EG HSEQ.out (fun _ => rfl)
            (fun hi k W => KI W3 kb (k : Int) W ∧ (k = 0 ∨ k < stop)) (fun c hi k W => c = .exit 2 ∧ KI W3 kb (k : Int) W ∧ k = max stop 1) ?hI ?hIx ?hIn ?h0
            (fun k bx W => W.heap[bx]? = some (.cells #[.int .i64 (gE U k).1.1, .int .i64 (gE U k).1.2.1, .int .i64 (gE U k).1.2.2] 33 (0, 0))) ?hPx _ ?assign ?body ?done ?stop
          case hI =>
            rintro hi k A C row ⟨h1, h2⟩ hgr hr
            exact ⟨KI.own (v := fun k => (k : Int)) HK12.out.1.lv.size (by have := HF.out.low; omega) k A C row h1 hgr hr, h2⟩
          case hIx =>
            rintro c hi k A C row ⟨h0, h1, h2⟩ hgr hr
            exact ⟨h0, KI.own (v := fun k => (k : Int)) HK12.out.1.lv.size (by have := HF.out.low; omega) k A C row h1 hgr hr, h2⟩
          case hIn =>
            rintro hi k A C hlo hhi ⟨h1, h2⟩ hin
            exact ⟨h1.inner hin (by have := HF.out.low; have := HK12.out.1.lv.size; omega) (by have := HK12.out.1.lv.size; omega), h2⟩
          case h0 =>
            intro W' hb' _
            exact ⟨HK12.out.1.below hb', .inl rfl⟩
          case hPx =>
            intro k bx s A C row hb hgr hr
            refine (hgr.block bx (Array.getElem?_eq_some_iff.1 hb).1 fun e => ?_).trans hb
            obtain ⟨_, o, ho, hc⟩ := hr bx e.symm
            rw [hb] at ho
            cases ho
            cases hc
          case assign =>
            rintro l hi k Wq K _ _ ⟨hj, hst⟩ hk hK
            have hbq := bA' (Below.refl Wq.heap.size Wq) (Nat.le_refl _) (.cells #[.int .i64 (gE U k).1.1, .int .i64 (gE U k).1.2.1, .int .i64 (gE U k).1.2.2] 33)
            have H9 := Lib.hid (And.intro hbq (And.intro (hj.below hbq) (And.intro hst (World.alloc_heap_new Wq (.cells #[.int .i64 (gE U k).1.1, .int .i64 (gE U k).1.2.1, .int .i64 (gE U k).1.2.2] 33)))))
            have HKK := Lib.hid hK
            clear hj hst hbq hK
            gi_wp2
            obtain ⟨g1, g2, g3, g4⟩ := H9.out
            obtain ⟨bx, hbx⟩ : ∃ bx, Wq.heap.size = bx := ⟨_, rfl⟩
            rw [hbx] at g4 ⊢
            exact HKK.out bx _ g1 ⟨g2, g3⟩ g4
          case body =>
            rintro l hi k bx W hlo hhi ⟨hj, hst⟩ hpx hk
            (try dsimp only)
            obtain ⟨y, hy⟩ : ∃ y, gE U k = y := ⟨_, rfl⟩
            rw [hy] at hpx ⊢
            have hfl := HF.out
            have hwant := (hj.lv.same _ (by have := hfl.low; omega) (by have := hfl.low; omega)).trans hfl.want
            rw [HLEN.out] at hwant
            have hstop := (hj.lv.same _ (by have := hfl.low; omega) (by have := hfl.low; omega)).trans hfl.st
            obtain ⟨g, off, hp, hgb, e0, e1, e2, e3⟩ := hfl.flat k y (by rw [gE_get (by rw [HLEN.out]; exact hk), hy])
            have hgk : ∀ j (u : Value), W3.cell? ⟨g, j, none⟩ = some u → W.cell? ⟨g, j, none⟩ = some u := fun j u hu => by
              rw [← hu]
              exact World.cell?_of_block (hj.lv.same g (World.block_lt_of_cell? _ _ hu) fun e => absurd (show g = kb from e) (by omega))
            replace e0 := hgk _ _ e0
            replace e1 := hgk _ _ e1
            replace e2 := hgk _ _ e2
            replace e3 := hgk _ _ e3
            obtain ⟨c0, f0⟩ := hj.cell
            have d0 : W.cell? ⟨wb, 0, none⟩ = some (.slice (some ⟨g, off, none⟩) N c1) := by rw [← hp]; unfold World.cell?; rw [hwant]; rfl
            obtain ⟨y0, y1, y2⟩ := cells3 hpx (Below.refl _ _)
            have hkN : decide ((k : Int) ≥ (N : Int)) = false := decide_eq_false (by omega)
            have hkN2 : decide (N ≤ k) = false := decide_eq_false (by omega)
            have hk0 : (0 : Int) ≤ (k : Int) := by omega
            have hkz : (k : Int) < (N : Int) := by omega
            have hnp : ∀ W : World, (binOp BinOp.neq 33 (.agg #[.int .i64 y.1.1, .int .i64 y.1.2.1, .int .i64 y.1.2.2]) (.agg #[.int .i64 y.1.1, .int .i64 y.1.2.1, .int .i64 y.1.2.2])).run Try.prog W = .ok (.bool false) W := fun W => by rw [neP7]; simp
            have hnn : (y.2 != y.2) = false := by simp
            have HJ := Lib.hid (And.intro hj (And.intro hst (And.intro hk (And.intro hlo (And.intro hhi hstop)))))
            clear hj hst hpx hk hlo hhi hstop hwant hfl hgk hp hgb hy
            gi_wp2_with fail
            refine region_round_held (S := (fun w' => w'.cell? ⟨kb, 0, none⟩ = some (.int .i64 (k : Int)) ∧ w'.cell? ⟨wb, 0, none⟩ = some (.slice (some ⟨g, off, none⟩) N c1) ∧ w'.cell? ⟨bx, 0, none⟩ = some (.int .i64 y.1.1) ∧ w'.cell? ⟨bx, 1, none⟩ = some (.int .i64 y.1.2.1) ∧ w'.cell? ⟨bx, 2, none⟩ = some (.int .i64 y.1.2.2) ∧ w'.cell? ⟨g, off + k * 4, none⟩ = some (.int .i64 y.1.1) ∧ w'.cell? ⟨g, off + k * 4 + 1, none⟩ = some (.int .i64 y.1.2.1) ∧ w'.cell? ⟨g, off + k * 4 + 2, none⟩ = some (.int .i64 y.1.2.2) ∧ w'.cell? ⟨g, off + k * 4 + 3, none⟩ = some (.int .i64 y.2) ∧ Below W.heap.size W w')) (by kernel_rfl) (by kernel_rfl) ?_ (fun hHeld => ?_)
            · try dsimp only
              exact ⟨c0, d0, y0, y1, y2, e0, e1, e2, e3, Below.drew (Below.refl _ W)⟩
            refine wpAnyH_take (i := 0) (oi := { dst := some 73, op := Go.Op.load 3 (Go.Operand.tmp 15), type := 3, pos := "law.go:166", after := #[], guard := none }) (v := ?_) rfl (by kernel_rfl) (by kernel_rfl) (by kernel_rfl) (fun _ _ _ h => h) (Or.inl ⟨by rfl, ?_⟩) (by assumption) ?_
            rotate_left
            · intro wS hSw
              (try dsimp only at hSw)
              first | (go_simp; done) | (go_simp; with_reducible rfl)
            try simp only [Act.put, List.setIfInBounds_toArray, List.set_cons_zero, List.set_cons_succ]
            refine wpAnyH_take (i := 1) (oi := { dst := some 74, op := Go.Op.load 35 (Go.Operand.tmp 14), type := 35, pos := "law.go:166", after := #[], guard := none }) (v := ?_) rfl (by kernel_rfl) (by kernel_rfl) (by kernel_rfl) (fun _ _ _ h => h) (Or.inl ⟨by rfl, ?_⟩) (by assumption) ?_
            rotate_left
            · intro wS hSw
              (try dsimp only at hSw)
              first | (go_simp; done) | (go_simp; with_reducible rfl)
            try simp only [Act.put, List.setIfInBounds_toArray, List.set_cons_zero, List.set_cons_succ]
            refine wpAnyH_take (i := 2) (oi := { dst := some 75, op := Go.Op.call { callee := Go.Callee.builtin Go.Builtin.len, args := #[Go.Operand.tmp 74], argTypes := #[35] }, type := 3, pos := "law.go:166", after := #[{ on := 1, ground := Go.Ground.data }], guard := none }) (v := ?_) rfl (by kernel_rfl) (by kernel_rfl) (by kernel_rfl) (fun _ _ _ h => h) (Or.inl ⟨by rfl, ?_⟩) (by assumption) ?_
            rotate_left
            · intro wS hSw
              (try dsimp only at hSw)
              first | (go_simp; done) | (go_simp; with_reducible rfl)
            try simp only [Act.put, List.setIfInBounds_toArray, List.set_cons_zero, List.set_cons_succ]
            refine wpAnyH_take (i := 3) (oi := { dst := some 76, op := Go.Op.binOp Go.BinOp.geq 3 (Go.Operand.tmp 73) (Go.Operand.tmp 75) 3, type := 4, pos := "law.go:166", after := #[{ on := 0, ground := Go.Ground.data }, { on := 2, ground := Go.Ground.data }], guard := none }) (v := ?_) rfl (by kernel_rfl) (by kernel_rfl) (by kernel_rfl) (fun _ _ _ h => h) (Or.inl ⟨by rfl, ?_⟩) (by assumption) ?_
            rotate_left
            · intro wS hSw
              (try dsimp only at hSw)
              first | (go_simp; done) | (go_simp; with_reducible rfl)
            try simp only [Act.put, List.setIfInBounds_toArray, List.set_cons_zero, List.set_cons_succ]
            refine wpAnyH_take (i := 4) (oi := { dst := some 77, op := Go.Op.move (Go.Operand.tmp 76), type := 4, pos := "law.go:166", after := #[{ on := 3, ground := Go.Ground.data }], guard := none }) (v := ?_) rfl (by kernel_rfl) (by kernel_rfl) (by kernel_rfl) (fun _ _ _ h => h) (Or.inl ⟨by rfl, ?_⟩) (by assumption) ?_
            rotate_left
            · intro wS hSw
              (try dsimp only at hSw)
              first | (go_simp; done) | (go_simp; with_reducible rfl)
            try simp only [Act.put, List.setIfInBounds_toArray, List.set_cons_zero, List.set_cons_succ]
            refine wpAnyH_take (i := 5) (oi := { dst := some 78, op := Go.Op.load 33 (Go.Operand.tmp 16), type := 33, pos := "law.go:166", after := #[{ on := 4, ground := Go.Ground.guard }], guard := some (4, false) }) (v := ?_) rfl (by kernel_rfl) (by kernel_rfl) (by kernel_rfl) (fun _ _ _ h => h) (Or.inl ⟨by rfl, ?_⟩) (by assumption) ?_
            rotate_left
            · intro wS hSw
              (try dsimp only at hSw)
              first | (go_simp; done) | (go_simp; with_reducible rfl)
            try simp only [Act.put, List.setIfInBounds_toArray, List.set_cons_zero, List.set_cons_succ]
            refine wpAnyH_take (i := 6) (oi := { dst := some 79, op := Go.Op.load 35 (Go.Operand.tmp 14), type := 35, pos := "law.go:166", after := #[{ on := 4, ground := Go.Ground.guard }], guard := some (4, false) }) (v := ?_) rfl (by kernel_rfl) (by kernel_rfl) (by kernel_rfl) (fun _ _ _ h => h) (Or.inl ⟨by rfl, ?_⟩) (by assumption) ?_
            rotate_left
            · intro wS hSw
              (try dsimp only at hSw)
              first | (go_simp; done) | (go_simp; with_reducible rfl)
            try simp only [Act.put, List.setIfInBounds_toArray, List.set_cons_zero, List.set_cons_succ]
            refine wpAnyH_take (i := 7) (oi := { dst := some 80, op := Go.Op.load 3 (Go.Operand.tmp 15), type := 3, pos := "law.go:166", after := #[{ on := 4, ground := Go.Ground.guard }], guard := some (4, false) }) (v := ?_) rfl (by kernel_rfl) (by kernel_rfl) (by kernel_rfl) (fun _ _ _ h => h) (Or.inl ⟨by rfl, ?_⟩) (by assumption) ?_
            rotate_left
            · intro wS hSw
              (try dsimp only at hSw)
              first | (go_simp; done) | (go_simp; with_reducible rfl)
            try simp only [Act.put, List.setIfInBounds_toArray, List.set_cons_zero, List.set_cons_succ]
            refine wpAnyH_take (i := 8) (oi := { dst := some 81, op := Go.Op.indexAddr 35 (Go.Operand.tmp 79) (Go.Operand.tmp 80), type := 0, pos := "law.go:166", after := #[{ on := 6, ground := Go.Ground.data }, { on := 7, ground := Go.Ground.data }, { on := 4, ground := Go.Ground.guard }], guard := some (4, false) }) (v := ?_) rfl (by kernel_rfl) (by kernel_rfl) (by kernel_rfl) (fun _ _ _ h => h) (Or.inl ⟨by rfl, ?_⟩) (by assumption) ?_
            rotate_left
            · intro wS hSw
              (try dsimp only at hSw)
              first | (go_simp; done) | (go_simp; with_reducible rfl)
            try simp only [Act.put, List.setIfInBounds_toArray, List.set_cons_zero, List.set_cons_succ]
            refine wpAnyH_take (i := 9) (oi := { dst := some 82, op := Go.Op.fieldAddr 52 (Go.Operand.tmp 81) 0, type := 0, pos := "law.go:166", after := #[{ on := 8, ground := Go.Ground.data }, { on := 4, ground := Go.Ground.guard }], guard := some (4, false) }) (v := ?_) rfl (by kernel_rfl) (by kernel_rfl) (by kernel_rfl) (fun _ _ _ h => h) (Or.inl ⟨by rfl, ?_⟩) (by assumption) ?_
            rotate_left
            · intro wS hSw
              (try dsimp only at hSw)
              first | (go_simp; done) | (go_simp; with_reducible rfl)
            try simp only [Act.put, List.setIfInBounds_toArray, List.set_cons_zero, List.set_cons_succ]
            refine wpAnyH_take (i := 10) (oi := { dst := some 83, op := Go.Op.load 26 (Go.Operand.tmp 82), type := 26, pos := "law.go:166", after := #[{ on := 9, ground := Go.Ground.data }, { on := 4, ground := Go.Ground.guard }], guard := some (4, false) }) (v := ?_) rfl (by kernel_rfl) (by kernel_rfl) (by kernel_rfl) (fun _ _ _ h => h) (Or.inl ⟨by rfl, ?_⟩) (by assumption) ?_
            rotate_left
            · intro wS hSw
              (try dsimp only at hSw)
              first | (go_simp; done) | (go_simp; with_reducible rfl)
            try simp only [Act.put, List.setIfInBounds_toArray, List.set_cons_zero, List.set_cons_succ]
            refine wpAnyH_ready (rs := [11]) (by kernel_rfl) (by simp) ?_
            refine AllReadyH.cons (o := { dst := some 84, op := Go.Op.call { callee := Go.Callee.value (Go.Operand.func 11), args := #[Go.Operand.tmp 83], argTypes := #[26] }, type := 33, pos := "law.go:166", after := #[{ on := 10, ground := Go.Ground.data }, { on := 4, ground := Go.Ground.chain }, { on := 4, ground := Go.Ground.guard }], guard := some (4, false) }) rfl (fun K hK => ?_) AllReadyH.nil
            go_simp
            refine (of7_c _ _ _ _).mono ?_
            rintro e w9 ⟨rfl, hb⟩
            (try go_wp2_with fail)
            refine hK.out _ _ ?_ (fun hHeld => ?_)
            · try dsimp only
              (go_split_ands; with_reducible exact ⟨keepc hb (by assumption), keepc hb (by assumption), keepc hb (by assumption), keepc hb (by assumption), keepc hb (by assumption), keepc hb (by assumption), keepc hb (by assumption), keepc hb (by assumption), keepc hb (by assumption), belowT (by assumption) hb⟩)
            clear hK K
            try simp only [Act.put, List.setIfInBounds_toArray, List.set_cons_zero, List.set_cons_succ]
            refine wpAnyH_take (i := 12) (oi := { dst := some 85, op := Go.Op.binOp Go.BinOp.neq 33 (Go.Operand.tmp 78) (Go.Operand.tmp 84) 33, type := 4, pos := "law.go:166", after := #[{ on := 5, ground := Go.Ground.data }, { on := 11, ground := Go.Ground.data }, { on := 4, ground := Go.Ground.guard }], guard := some (4, false) }) (v := ?_) rfl (by kernel_rfl) (by kernel_rfl) (by kernel_rfl) (fun _ _ _ h => h) (Or.inl ⟨by rfl, ?_⟩) (by assumption) ?_
            rotate_left
            · intro wS hSw
              (try dsimp only at hSw)
              first | (go_simp; done) | (go_simp; with_reducible rfl)
            try simp only [Act.put, List.setIfInBounds_toArray, List.set_cons_zero, List.set_cons_succ]
            refine wpAnyH_take (i := 13) (oi := { dst := some 86, op := Go.Op.pick (Go.Operand.tmp 77) (Go.Operand.const (Go.Value.bool true)) (Go.Operand.tmp 85), type := 4, pos := "law.go:166", after := #[{ on := 4, ground := Go.Ground.data }, { on := 12, ground := Go.Ground.data }], guard := none }) (v := ?_) rfl (by kernel_rfl) (by kernel_rfl) (by kernel_rfl) (fun _ _ _ h => h) (Or.inl ⟨by rfl, ?_⟩) (by assumption) ?_
            rotate_left
            · intro wS hSw
              (try dsimp only at hSw)
              first | (go_simp; done) | (go_simp; with_reducible rfl)
            try simp only [Act.put, List.setIfInBounds_toArray, List.set_cons_zero, List.set_cons_succ]
            refine wpAnyH_take (i := 14) (oi := { dst := some 87, op := Go.Op.move (Go.Operand.tmp 86), type := 4, pos := "law.go:166", after := #[{ on := 13, ground := Go.Ground.data }, { on := 11, ground := Go.Ground.chain }], guard := none }) (v := ?_) rfl (by kernel_rfl) (by kernel_rfl) (by kernel_rfl) (fun _ _ _ h => h) (Or.inl ⟨by rfl, ?_⟩) (by assumption) ?_
            rotate_left
            · intro wS hSw
              (try dsimp only at hSw)
              first | (go_simp; done) | (go_simp; with_reducible rfl)
            try simp only [Act.put, List.setIfInBounds_toArray, List.set_cons_zero, List.set_cons_succ]
            refine wpAnyH_take (i := 15) (oi := { dst := some 88, op := Go.Op.move (Go.Operand.tmp 17), type := 3, pos := "law.go:166", after := #[{ on := 14, ground := Go.Ground.guard }], guard := some (14, false) }) (v := ?_) rfl (by kernel_rfl) (by kernel_rfl) (by kernel_rfl) (fun _ _ _ h => h) (Or.inl ⟨by rfl, ?_⟩) (by assumption) ?_
            rotate_left
            · intro wS hSw
              (try dsimp only at hSw)
              first | (go_simp; done) | (go_simp; with_reducible rfl)
            try simp only [Act.put, List.setIfInBounds_toArray, List.set_cons_zero, List.set_cons_succ]
            refine wpAnyH_take (i := 16) (oi := { dst := some 89, op := Go.Op.load 35 (Go.Operand.tmp 14), type := 35, pos := "law.go:166", after := #[{ on := 14, ground := Go.Ground.guard }], guard := some (14, false) }) (v := ?_) rfl (by kernel_rfl) (by kernel_rfl) (by kernel_rfl) (fun _ _ _ h => h) (Or.inl ⟨by rfl, ?_⟩) (by assumption) ?_
            rotate_left
            · intro wS hSw
              (try dsimp only at hSw)
              first | (go_simp; done) | (go_simp; with_reducible rfl)
            try simp only [Act.put, List.setIfInBounds_toArray, List.set_cons_zero, List.set_cons_succ]
            refine wpAnyH_take (i := 17) (oi := { dst := some 90, op := Go.Op.load 3 (Go.Operand.tmp 15), type := 3, pos := "law.go:166", after := #[{ on := 14, ground := Go.Ground.guard }], guard := some (14, false) }) (v := ?_) rfl (by kernel_rfl) (by kernel_rfl) (by kernel_rfl) (fun _ _ _ h => h) (Or.inl ⟨by rfl, ?_⟩) (by assumption) ?_
            rotate_left
            · intro wS hSw
              (try dsimp only at hSw)
              first | (go_simp; done) | (go_simp; with_reducible rfl)
            try simp only [Act.put, List.setIfInBounds_toArray, List.set_cons_zero, List.set_cons_succ]
            refine wpAnyH_take (i := 18) (oi := { dst := some 91, op := Go.Op.indexAddr 35 (Go.Operand.tmp 89) (Go.Operand.tmp 90), type := 0, pos := "law.go:166", after := #[{ on := 16, ground := Go.Ground.data }, { on := 17, ground := Go.Ground.data }, { on := 14, ground := Go.Ground.guard }], guard := some (14, false) }) (v := ?_) rfl (by kernel_rfl) (by kernel_rfl) (by kernel_rfl) (fun _ _ _ h => h) (Or.inl ⟨by rfl, ?_⟩) (by assumption) ?_
            rotate_left
            · intro wS hSw
              (try dsimp only at hSw)
              first | (go_simp; done) | (go_simp; with_reducible rfl)
            try simp only [Act.put, List.setIfInBounds_toArray, List.set_cons_zero, List.set_cons_succ]
            refine wpAnyH_take (i := 19) (oi := { dst := some 92, op := Go.Op.fieldAddr 52 (Go.Operand.tmp 91) 1, type := 0, pos := "law.go:166", after := #[{ on := 18, ground := Go.Ground.data }, { on := 14, ground := Go.Ground.guard }], guard := some (14, false) }) (v := ?_) rfl (by kernel_rfl) (by kernel_rfl) (by kernel_rfl) (fun _ _ _ h => h) (Or.inl ⟨by rfl, ?_⟩) (by assumption) ?_
            rotate_left
            · intro wS hSw
              (try dsimp only at hSw)
              first | (go_simp; done) | (go_simp; with_reducible rfl)
            try simp only [Act.put, List.setIfInBounds_toArray, List.set_cons_zero, List.set_cons_succ]
            refine wpAnyH_take (i := 20) (oi := { dst := some 93, op := Go.Op.load 3 (Go.Operand.tmp 92), type := 3, pos := "law.go:166", after := #[{ on := 19, ground := Go.Ground.data }, { on := 14, ground := Go.Ground.guard }], guard := some (14, false) }) (v := ?_) rfl (by kernel_rfl) (by kernel_rfl) (by kernel_rfl) (fun _ _ _ h => h) (Or.inl ⟨by rfl, ?_⟩) (by assumption) ?_
            rotate_left
            · intro wS hSw
              (try dsimp only at hSw)
              first | (go_simp; done) | (go_simp; with_reducible rfl)
            try simp only [Act.put, List.setIfInBounds_toArray, List.set_cons_zero, List.set_cons_succ]
            refine wpAnyH_take (i := 21) (oi := { dst := some 94, op := Go.Op.binOp Go.BinOp.neq 3 (Go.Operand.tmp 88) (Go.Operand.tmp 93) 3, type := 4, pos := "law.go:166", after := #[{ on := 15, ground := Go.Ground.data }, { on := 20, ground := Go.Ground.data }, { on := 14, ground := Go.Ground.guard }], guard := some (14, false) }) (v := ?_) rfl (by kernel_rfl) (by kernel_rfl) (by kernel_rfl) (fun _ _ _ h => h) (Or.inl ⟨by rfl, ?_⟩) (by assumption) ?_
            rotate_left
            · intro wS hSw
              (try dsimp only at hSw)
              first | (go_simp; done) | (go_simp; with_reducible rfl)
            try simp only [Act.put, List.setIfInBounds_toArray, List.set_cons_zero, List.set_cons_succ]
            refine wpAnyH_take (i := 22) (oi := { dst := some 95, op := Go.Op.pick (Go.Operand.tmp 87) (Go.Operand.const (Go.Value.bool true)) (Go.Operand.tmp 94), type := 4, pos := "law.go:166", after := #[{ on := 14, ground := Go.Ground.data }, { on := 21, ground := Go.Ground.data }], guard := none }) (v := ?_) rfl (by kernel_rfl) (by kernel_rfl) (by kernel_rfl) (fun _ _ _ h => h) (Or.inl ⟨by rfl, ?_⟩) (by assumption) ?_
            rotate_left
            · intro wS hSw
              (try dsimp only at hSw)
              first | (go_simp; done) | (go_simp; with_reducible rfl)
            try simp only [Act.put, List.setIfInBounds_toArray, List.set_cons_zero, List.set_cons_succ]
            refine wpAnyH_done (by kernel_rfl) ?_ _
            refine NoOut.normal ?_
            go_split_ands
            have hb9 : Below W.heap.size W w9 := by with_reducible assumption
            obtain ⟨hj, hst, hk, hlo, hhi, hstop⟩ := HJ.out
            have hj9 := hj.below hb9
            obtain ⟨c9, f9⟩ := hj9.cell
            have hs9 := kbE hstop hb9
            have hne : w.heap.size + 1 ≠ kb := by have := HF.out.low; omega
            have hwr : IntKind.i64.wrap ((k : Int) + 1) = (k : Int) + 1 := by rw [IntKind.wrap_i64] <;> omega
            have hws : IntKind.i64.wrap (stop : Int) = (stop : Int) := by rw [IntKind.wrap_i64] <;> omega
            have cs2 : (w9.setCell ⟨kb, 0, none⟩ (.int .i64 ((k : Int) + 1))).cell? ⟨w.heap.size + 1, 0, none⟩ = some (.int .u8 (stop : Int)) := by
              rw [World.cell?_of_block (heap_setCell_other w9 ⟨kb, 0, none⟩ (w.heap.size + 1) _ hne)]
              unfold World.cell?
              rw [hs9]
              rfl
            have hk9 : KI W3 kb (((k + 1 : Nat) : Int)) (w9.setCell ⟨kb, 0, none⟩ (.int .i64 ((k : Int) + 1))) := by
              rw [show ((k + 1 : Nat) : Int) = (k : Int) + 1 from by omega]
              exact hj9.set _
            have hkbl : kb < w12.heap.size := by have := HF.out.low; have := HK12.out.1.lv.size; omega
            have HE9 := Lib.hid (And.intro hk9 (And.intro (show KeepsFrom w12.heap.size W (w9.setCell ⟨kb, 0, none⟩ (.int .i64 ((k : Int) + 1))) from (below_from hb9).trans (from_set' _ _ hkbl)) (show Kp (fun _ => False) (w12.heap.size + 2) hi W (w9.setCell ⟨kb, 0, none⟩ (.int .i64 ((k : Int) + 1))) from (Kp.below hb9).trans (kp_set' _ _ (by omega)))))
            clear hb9 hj9 hs9 hk9 hj hlo hhi hstop c0 d0 y0 y1 y2 e0 e1 e2 e3
            by_cases hsp : (stop : Int) ≤ (k : Int) + 1
            · have hd : decide ((k : Int) + 1 ≥ (stop : Int)) = true := decide_eq_true hsp
              have HM := Lib.hid (show k + 1 = max stop 1 from by omega)
              clear hst hsp hk
              gi_wp2
              exact ⟨HE9.out.2.1, rfl, HE9.out.1, HM.out⟩
            · have hd : decide ((k : Int) + 1 ≥ (stop : Int)) = false := decide_eq_false hsp
              have HM := Lib.hid (show k + 1 < stop from by omega)
              clear hst hsp hk
              gi_wp2
              exact ⟨HE9.out.2.1, HE9.out.2.2, HE9.out.1, .inr HM.out⟩
          case done =>
            rintro D hi W hD _ ⟨hj, _⟩ hdef
            have hfl := HF.out
            have hst := (hj.lv.same _ (by have := hfl.low; omega) (by have := hfl.low; omega)).trans hfl.st
            have hres := (hj.lv.same _ (by have := hfl.low; omega) (by have := hfl.low; omega)).trans hfl.res
            have hwant := (hj.lv.same _ (by have := hfl.low; omega) (by have := hfl.low; omega)).trans hfl.want
            rw [HLEN.out] at hwant
            obtain ⟨cn, fn⟩ := hj.cell
            have cS : W.cell? ⟨w.heap.size + 1, 0, none⟩ = some (.int .u8 (stop : Int)) := by unfold World.cell?; rw [hst]; rfl
            have cE : W.cell? ⟨w.heap.size + 1 + 1, 0, none⟩ = some (.bool false) := by unfold World.cell?; rw [hres]; rfl
            have fE := frozen_of_row _ (w.heap.size + 1 + 1) 0 _ _ hres
            have cW : W.cell? ⟨wb, 0, none⟩ = some (.slice p1 N c1) := by unfold World.cell?; rw [hwant]; rfl
            have hws : IntKind.i64.wrap (stop : Int) = (stop : Int) := by have := HI.out.2.1; rw [IntKind.wrap_i64] <;> omega
            have hbW : Below w.heap.size w W := hj.under (by have := hfl.low; omega) hfl.below
            have hDl : kb < D := by have := hfl.low; have := HK12.out.1.lv.size; omega
            have HX2 := Lib.hid (And.intro (heap_setCell_same _ (w.heap.size + 1 + 1) 0 _ _ (.bool true) hres) (And.intro (below_set hbW (show w.heap.size ≤ w.heap.size + 1 + 1 by omega) (.bool true)) (And.intro ((heap_setCell_other _ ⟨w.heap.size + 1 + 1, 0, none⟩ D (.bool true) (by show D ≠ w.heap.size + 1 + 1; have := hfl.low; omega)).trans hdef) (show w.heap.size ≤ D ∧ D ≠ w.heap.size + 1 + 1 from ⟨by have := hfl.low; omega, by have := hfl.low; omega⟩))))
            clear hfl hst hres hwant hbW hDl hdef hD hj
            have hzz : ((N : Int) == (N : Int)) = true := beq_self_eq_true _
            go_wp2
            all_goals first
              | (rename_i x b h1 h2; simp [undef] at h1; done)
              | (refine ⟨by simp, .inl ⟨_, _, rfl, run_takeDeferred HX2.out.2.2.1, ?_⟩⟩
                 obtain ⟨hX1, hbe, hX3, hD1, hD2⟩ := HX2.out
                 have h0 : ((W.setCell ⟨w.heap.size + 1 + 1, 0, none⟩ (.bool true)).putObj D (.deferred none)).heap[w.heap.size + 1 + 1]? = some (.cells #[.bool true] 4 (0, 0)) := (World.putObj_heap_other (by omega)).trans hX1
                 have h : ((W.setCell ⟨w.heap.size + 1 + 1, 0, none⟩ (.bool true)).putObj D (.deferred none)).cell? ⟨w.heap.size + 1 + 1, 0, none⟩ = some (.bool true) := by unfold World.cell?; rw [h0]; rfl
                 refine ⟨.bool true, ?_, rfl, hbe.os, hbe.tape, hbe.output, by simpa using hbe.size, fun j hj => (World.putObj_heap_other (by omega)).trans (hbe.block j hj)⟩
                 simp [results, Try.results5, go_sem, h])
          case stop =>
            rintro D hi c k W hD _ hk ⟨rfl, hj, hm⟩ hdef
            have hfl := HF.out
            have hst := (hj.lv.same _ (by have := hfl.low; omega) (by have := hfl.low; omega)).trans hfl.st
            have hres := (hj.lv.same _ (by have := hfl.low; omega) (by have := hfl.low; omega)).trans hfl.res
            have hwant := (hj.lv.same _ (by have := hfl.low; omega) (by have := hfl.low; omega)).trans hfl.want
            rw [HLEN.out] at hwant
            obtain ⟨cn, fn⟩ := hj.cell
            have cS : W.cell? ⟨w.heap.size + 1, 0, none⟩ = some (.int .u8 (stop : Int)) := by unfold World.cell?; rw [hst]; rfl
            have cE : W.cell? ⟨w.heap.size + 1 + 1, 0, none⟩ = some (.bool false) := by unfold World.cell?; rw [hres]; rfl
            have fE := frozen_of_row _ (w.heap.size + 1 + 1) 0 _ _ hres
            have cW : W.cell? ⟨wb, 0, none⟩ = some (.slice p1 N c1) := by unfold World.cell?; rw [hwant]; rfl
            have hws : IntKind.i64.wrap (stop : Int) = (stop : Int) := by have := HI.out.2.1; rw [IntKind.wrap_i64] <;> omega
            have hbW : Below w.heap.size w W := hj.under (by have := hfl.low; omega) hfl.below
            have hDl : kb < D := by have := hfl.low; have := HK12.out.1.lv.size; omega
            have HX2 := Lib.hid (And.intro (heap_setCell_same _ (w.heap.size + 1 + 1) 0 _ _ (.bool true) hres) (And.intro (below_set hbW (show w.heap.size ≤ w.heap.size + 1 + 1 by omega) (.bool true)) (And.intro ((heap_setCell_other _ ⟨w.heap.size + 1 + 1, 0, none⟩ D (.bool true) (by show D ≠ w.heap.size + 1 + 1; have := hfl.low; omega)).trans hdef) (show w.heap.size ≤ D ∧ D ≠ w.heap.size + 1 + 1 from ⟨by have := hfl.low; omega, by have := hfl.low; omega⟩))))
            clear hfl hst hres hwant hbW hDl hdef hD hj
            refine wpIn_wide.2 ?_
            by_cases hkN : k = N
            · subst hkN
              have hzz : ((k : Int) == (k : Int)) = true := beq_self_eq_true _
              go_wp2
              all_goals first
                | (rename_i x b h1 h2; simp [undef] at h1; done)
                | (refine ⟨by simp, .inl ⟨_, _, rfl, run_takeDeferred HX2.out.2.2.1, ?_⟩⟩
                   obtain ⟨hX1, hbe, hX3, hD1, hD2⟩ := HX2.out
                   have h0 : ((W.setCell ⟨w.heap.size + 1 + 1, 0, none⟩ (.bool true)).putObj D (.deferred none)).heap[w.heap.size + 1 + 1]? = some (.cells #[.bool true] 4 (0, 0)) := (World.putObj_heap_other (by omega)).trans hX1
                   have h : ((W.setCell ⟨w.heap.size + 1 + 1, 0, none⟩ (.bool true)).putObj D (.deferred none)).cell? ⟨w.heap.size + 1 + 1, 0, none⟩ = some (.bool true) := by unfold World.cell?; rw [h0]; rfl
                   refine ⟨.bool true, ?_, rfl, hbe.os, hbe.tape, hbe.output, by simpa using hbe.size, fun j hj => (World.putObj_heap_other (by omega)).trans (hbe.block j hj)⟩
                   simp [results, Try.results5, go_sem, h])
            · have hz1 : ((k : Int) == (N : Int)) = false := beq_eq_false_iff_ne.2 (by omega)
              have hz2 : (k : Int) < (N : Int) := by omega
              have hz3 : ((max stop 1 : Nat) : Int) = max (stop : Int) 1 := by omega
              subst hm
              go_wp2
              refine ⟨by simp, .inl ⟨_, _, rfl, run_takeDeferred HX2.out.2.2.1, ?_⟩⟩
              obtain ⟨hX1, hbe, hX3, hD1, hD2⟩ := HX2.out
              have h0 : ((W.setCell ⟨w.heap.size + 1 + 1, 0, none⟩ (.bool true)).putObj D (.deferred none)).heap[w.heap.size + 1 + 1]? = some (.cells #[.bool true] 4 (0, 0)) := (World.putObj_heap_other (by omega)).trans hX1
              have h : ((W.setCell ⟨w.heap.size + 1 + 1, 0, none⟩ (.bool true)).putObj D (.deferred none)).cell? ⟨w.heap.size + 1 + 1, 0, none⟩ = some (.bool true) := by unfold World.cell?; rw [h0]; rfl
              refine ⟨.bool true, ?_, rfl, hbe.os, hbe.tape, hbe.output, by simpa using hbe.size, fun j hj => (World.putObj_heap_other (by omega)).trans (hbe.block j hj)⟩
              simp [results, Try.results5, go_sem, h]
  · have hd : decide ((ls.length : Int) > 200) = true := decide_eq_true (by omega)
    have hd2 : decide (200 < ls.length) = true := decide_eq_true (by omega)
    go_wp2_with fail
    refine (K0.out w2 HB2.out).mono ?_
    rintro e w3 ⟨rfl, hb3⟩
    have hr3 := kbE H1.out.2.2.2.1 (bT' HB2.out hb3 HB2.out.size)
    have r0 : w3.cell? ⟨w.heap.size + 1 + 1, 0, none⟩ = some (.bool false) := by unfold World.cell?; rw [hr3]; rfl
    have f0 := frozen_of_row _ (w.heap.size + 1 + 1) 0 _ _ hr3
    have HB3 := Lib.hid (And.intro (bT' H1.out.1 (bT' HB2.out hb3 HB2.out.size) H1.out.1.size) (heap_setCell_same _ (w.heap.size + 1 + 1) 0 _ _ (.bool true) hr3))
    clear hb3 hr3
    go_wp2
    refine ⟨.bool true, ?_, rfl, below_set HB3.out.1 (by omega) _⟩
    have h : (w3.setCell ⟨w.heap.size + 1 + 1, 0, none⟩ (.bool true)).cell? ⟨w.heap.size + 1 + 1, 0, none⟩ = some (.bool true) := by unfold World.cell?; rw [HB3.out.2]; rfl
    simp [results, Try.results5, go_sem, h]
end Go.Proofs.Ytibphmddepfgjaa.Tr
