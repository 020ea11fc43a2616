/-
  The law TrackFrees over this seat's translation, from a track's contracts. Conditions: those that each theorem states.
-/
import Derived.Test.YtibphmddepfgjaaR7E
import Derived.RangeFuncBox
namespace Go.Proofs.Ytibphmddepfgjaa.Tr
open Go.RowKit Go.Shelf Go.Lib Go.Sort
attribute [local go_sem] Oper.semAt_some

/-- What is there when the first of a list were put, each with how many were there. -/
def putsF (ls : List Sp) : Nat → List En
  | 0 => []
  | k + 1 => putL 200 (putsF ls k) (ls.getD k (0, 0, 0)) ((putsF ls k).length : Int)
/-- Each with its place. -/
def Placed (n : Nat) (L : List En) : Prop := ∀ i e, L[i]? = some e → e.2 = ((n + i : Nat) : Int)
theorem putsF_placed (ls : List Sp) : ∀ k, Placed 0 (putsF ls k)
  | 0 => fun i e h => by simp [putsF] at h
  | k + 1 => fun i e h => by
    unfold putsF putL at h
    split at h
    · by_cases hi : i < (putsF ls k).length
      · rw [List.getElem?_append_left hi] at h
        exact putsF_placed ls k i e h
      · rw [List.getElem?_append_right (by omega)] at h
        have h1 := (List.getElem?_eq_some_iff.1 h).1
        simp at h1
        rw [show i - (putsF ls k).length = 0 from by omega] at h
        have : ((ls.getD k (0, 0, 0), ((putsF ls k).length : Int)) : En) = e := by simpa using h
        subst this
        dsimp only
        omega
    · exact putsF_placed ls k i e h
theorem Placed.left {n : Nat} {M N : List En} (h : Placed n (M ++ N)) : Placed n M := fun i e hi => h i e (by rw [List.getElem?_append_left (List.getElem?_eq_some_iff.1 hi).1]; exact hi)
theorem Placed.right {n : Nat} {M N : List En} (h : Placed n (M ++ N)) : Placed (n + M.length) N := fun i e hi => by
  have := h (M.length + i) e (by rw [List.getElem?_append_right (by omega), show M.length + i - M.length = i from by omega]; exact hi)
  rw [this, Nat.add_assoc]
/-- What Free takes. -/
def freeN (L : List En) (s : Sp) : List En := if s.R = true then lessL L s else []
theorem free_all {L : List En} {s : Sp} (h : Rise L) : L = freeN L s ++ freeL L s ∧ freeX L s = (freeN L s).map (·.2) := by
  unfold freeN freeX
  by_cases hs : s.R = true
  · rw [if_pos hs, if_pos hs]
    exact ⟨free_split h hs, rfl⟩
  · rw [if_neg hs, if_neg hs]
    unfold freeL
    rw [if_neg hs]
    exact ⟨by simp, rfl⟩
/-- All is as it was but for the law's counter. -/
structure KI (W0 : World) (kb : Nat) (v : Int) (W : World) : Prop where
  lv : Leaves (fun x => x = kb) W0 W
  box : W.heap[kb]? = some (.cells #[.int .i64 v] 3 (0, 0))
theorem KI.cell {W0 W : World} {kb : Nat} {v : Int} (h : KI W0 kb v W) : W.cell? ⟨kb, 0, none⟩ = some (.int .i64 v) ∧ W.frozen? ⟨kb, 0, none⟩ = false := ⟨by unfold World.cell?; rw [h.box]; rfl, frozen_of_row _ kb 0 _ _ h.box⟩
theorem KI.set {W0 W : World} {kb : Nat} {v : Int} (h : KI W0 kb v W) (u : Int) : KI W0 kb u (W.setCell ⟨kb, 0, none⟩ (.int .i64 u)) :=
  ⟨⟨h.lv.os, h.lv.tape, h.lv.output, by simpa using h.lv.size, fun b hb hn => (heap_setCell_other _ ⟨kb, 0, none⟩ b _ hn).trans (h.lv.same b hb hn)⟩, heap_setCell_same _ kb 0 _ _ _ h.box⟩
theorem KI.drew {W0 W : World} {kb : Nat} {v : Int} (h : KI W0 kb v W) (n : Nat) : KI W0 kb v (W.drewN n) := ⟨⟨h.lv.os, h.lv.tape, h.lv.output, h.lv.size, h.lv.same⟩, h.box⟩
theorem KI.own {W0 : World} {kb B : Nat} {v : Nat → Int} (hB : W0.heap.size ≤ B) (hk : kb < W0.heap.size) : OwnFrom B (fun k W => KI W0 kb (v k) W) := by
  rintro k A C row h hgr hr
  have hb : ∀ b, b < W0.heap.size → C.heap[b]? = A.heap[b]? := fun b hb => hgr.block b (by have := h.lv.size; omega) fun e => by
    have := (hr b e.symm).1
    omega
  exact ⟨⟨hgr.os.trans h.lv.os, hgr.tape.trans h.lv.tape, hgr.output.trans h.lv.output, Nat.le_trans h.lv.size hgr.size, fun b h1 h2 => (hb b h1).trans (h.lv.same b h1 h2)⟩, (hb kb hk).trans h.box⟩
theorem KI.below {W0 W W' : World} {kb : Nat} {v : Int} (h : KI W0 kb v W) (hb : Below W.heap.size W W') : KI W0 kb v W' := ⟨h.lv.trans (Leaves.of hb), kbE h.box hb⟩
theorem KI.under {w W0 W : World} {kb : Nat} {v : Int} (h : KI W0 kb v W) (hk : w.heap.size ≤ kb) (hb : Below w.heap.size w W0) : Below w.heap.size w W := h.lv.below (fun x e => by rw [e]; exact hk) hb
theorem below_set {B : Nat} {a w : World} {k : Nat} (h : Below B a w) (hk : B ≤ k) (u : Value) : Below B a (w.setCell ⟨k, 0, none⟩ u) :=
  ⟨h.os, h.tape, h.output, by simpa using h.size, fun j hj => (heap_setCell_other _ ⟨k, 0, none⟩ j u (by show j ≠ k; omega)).trans (h.block j hj)⟩
theorem KI.inner {W0 A C : World} {kb lo hi : Nat} {v : Int} (h : KI W0 kb v A) (hin : Inner lo hi A C) (hk : kb < lo) (hW : W0.heap.size ≤ lo) : KI W0 kb v C :=
  ⟨⟨hin.os.trans h.lv.os, hin.tape.trans h.lv.tape, hin.output.trans h.lv.output, Nat.le_trans h.lv.size hin.size, fun b h1 h2 => (hin.block b (by have := h.lv.size; omega) (by omega)).trans (h.lv.same b h1 h2)⟩, (hin.block kb (Array.getElem?_eq_some_iff.1 h.box).1 (by omega)).trans h.box⟩
/-- A RANGE STATEMENT over an iterator with memory of its own, its round's act told by the round. -/
theorem range_lawP1 {g : Operand} {ps : Array Tmp} {assign body : Code} {Q : Exit → Act → World → Prop} {a : Act} {w : World} {gf : Nat} {lb : Array Value}
    (hg : a.eval g = .func (.func gf) #[] lb) (eg : ∀ args w, (callFunc gf args).run Try.prog w = .ok (.enter gf args) w)
    {N : Nat} {ar : Nat → Array Value} {old : Nat → Prop} (hseq : SeqP gf lb N ar old w) (hps : ∀ k, (ar k).size = ps.size)
    (I : Nat → Nat → World → Prop) (Ix : Code → Nat → Nat → World → Prop) (hI : ∀ hi, OwnFrom w.heap.size (I hi)) (hIx : ∀ c hi, OwnFrom w.heap.size (Ix c hi))
    (hIn : ∀ hi k A C, w.heap.size + 2 ≤ hi → hi ≤ A.heap.size → I hi k A → Inner (w.heap.size + 2) hi A C → I hi k C)
    (h0 : ∀ W', Below w.heap.size w W' → w.heap.size + 2 ≤ W'.heap.size → I W'.heap.size 0 W')
    (af : Nat → Act)
    (hassign : ∀ (l hi k : Nat) (W : World) (K : Act → World → Prop), w.heap.size + 2 ≤ hi → hi ≤ W.heap.size → I hi k W → k < N → (∀ W', Below W.heap.size W W' → I hi k W' → K (af k) W') →
      assign.wpIn (Fence.wide.inRound l) 0 Try.prog (Exit.then K (fun _ _ _ => False)) { tmps := (ps.zip (ar k)).foldl (fun t (p, v) => t.setIfInBounds p v) a.tmps, defers := [] } W)
    (hbody : ∀ (l hi k : Nat) (W : World), w.heap.size + 2 ≤ hi → hi ≤ W.heap.size → I hi k W → k < N →
      body.wpIn (Fence.wide.inRound l) 0 Try.prog (AfterP old (w.heap.size + 2) w.heap.size hi I Ix (k + 1) W) (af k) W)
    (hdone : ∀ (D hi : Nat) (W : World), w.heap.size ≤ D → w.heap.size + 2 ≤ hi → I hi N W → W.heap[D]? = some (.deferred (some [])) → Q .normal { a with defers := { target := .collected D, args := #[] } :: a.defers } W)
    (hstop : ∀ (D hi : Nat) (c : Code) (k : Nat) (W : World), w.heap.size ≤ D → w.heap.size + 2 ≤ hi → k ≤ N → Ix c hi k W → W.heap[D]? = some (.deferred (some [])) → c.wpIn Fence.wide 0 Try.prog Q { a with defers := { target := .collected D, args := #[] } :: a.defers } W) :
    (Code.rangeFunc g ps assign body).wpIn Fence.wide 0 Try.prog Q a w :=
  range_lawP hg eg hseq hps I Ix hI hIx hIn h0 (fun _ k a' _ => a' = af k) (fun hi k a' s A C row h _ _ => h)
    (fun l hi k W K h1 h2 h3 h4 hK => hassign l hi k W K h1 h2 h3 h4 fun W' hb hi' => hK _ W' hb hi' rfl)
    (fun l hi k a' W h1 h2 h3 h4 h5 => by subst h4; exact hbody l hi k W h1 h2 h3 h5) hdone hstop
theorem listKI {α : Type} {c : α → List Value} {W0 W : World} {kb : Nat} {v : Int} {p : Option Addr} {L : List α} (h : KI W0 kb v W) (hl : InList c W0 p L) (ha : ∀ g off, p = some ⟨g, off, none⟩ → L ≠ [] → g ≠ kb) : InList c W p L := listLeaves h.lv hl ha

set_option maxHeartbeats 16000000 in
set_option maxRecDepth 1000000 in
theorem frees_w {Tk : World → Nat → Nat → List En → (Nat → Prop) → Prop} (C : TkC Tk) (ls : List Sp) (q : Option Addr) (cap : Nat) (s t : Sp) (hs : s.I) (ht : t.I) (hI : ∀ x ∈ ls, x.I) (w : World) (hl : InList cSp w q ls)
    (k0 : ∀ W, Below w.heap.size w W → Calls Try.prog 8 #[] W fun e w' => e = .returned (.bool true) ∧ Below W.heap.size W w') :
    Calls Try.prog 7 #[.slice q ls.length cap, s.v, t.v] w fun e w' => e = .returned (.bool true) ∧ Below w.heap.size w w' := by
  have mixed : Try.prog.follows .mixedOrders = true := by kernel_rfl
  obtain ⟨W1, hW1⟩ : ∃ W1, ((w.alloc (.cells #[.int .i64 s.1, .int .i64 s.2.1, .int .i64 s.2.2] 26)).alloc (.cells #[.int .i64 t.1, .int .i64 t.2.1, .int .i64 t.2.2] 26)).alloc (.cells #[.bool false] 4) = W1 := ⟨_, rfl⟩
  have hb1 : Below w.heap.size w W1 := hW1 ▸ belowA (belowA (belowA (Below.refl _ w) _) _) _
  have hbs : W1.heap[w.heap.size]? = some (.cells #[.int .i64 s.1, .int .i64 s.2.1, .int .i64 s.2.2] 26 (0, 0)) := by
    rw [← hW1, Below.heap_alloc _ _ _ (by simp; omega), Below.heap_alloc _ _ _ (by simp)]
    exact World.alloc_heap_new w _
  have hbt : W1.heap[w.heap.size + 1]? = some (.cells #[.int .i64 t.1, .int .i64 t.2.1, .int .i64 t.2.2] 26 (0, 0)) := by
    rw [← hW1, Below.heap_alloc _ _ _ (by simp)]
    have := World.alloc_heap_new (w.alloc (.cells #[.int .i64 s.1, .int .i64 s.2.1, .int .i64 s.2.2] 26)) (.cells #[.int .i64 t.1, .int .i64 t.2.1, .int .i64 t.2.2] 26)
    rw [World.size_alloc] at this
    exact this
  have hbr : W1.heap[w.heap.size + 1 + 1]? = some (.cells #[.bool false] 4 (0, 0)) := by
    have := World.alloc_heap_new ((w.alloc (.cells #[.int .i64 s.1, .int .i64 s.2.1, .int .i64 s.2.2] 26)).alloc (.cells #[.int .i64 t.1, .int .i64 t.2.1, .int .i64 t.2.2] 26)) (.cells #[.bool false] 4)
    rw [World.size_alloc, World.size_alloc] at this
    rw [← hW1]
    exact this
  have hs1 : W1.heap.size = w.heap.size + 3 := by rw [← hW1]; simp
  have K0 := Lib.hid (fun W (hb : Below W1.heap.size W1 W) => k0 W (bT' hb1 hb hb1.size))
  have H1 := Lib.hid (And.intro hb1 (And.intro hbs (And.intro hbt (And.intro hbr (And.intro hs1 (hl.below hb1))))))
  have HW := Lib.hid hW1
  have HC := Lib.hid C
  have HI := Lib.hid (And.intro hs (And.intro ht hI))
  clear k0 hb1 hbs hbt hbr hs1 hl hW1 C hs ht hI
  refine (callsIn_wide (n := 0)).1 ?_
  refine callsIn_of_wp_marks Try.func7 rfl trivial ?_ rfl
  simp only [Try.ntmps7, List.size_toArray, List.length_cons, List.length_nil, Nat.reduceAdd, Nat.reduceSub, Array.replicate_succ, Array.replicate_zero, List.push_toArray, List.append_toArray, List.nil_append, List.cons_append]
  refine wpIn_wide.2 ?_
  go_wp2_with fail
  rw [HW.out]
  clear HW
  refine (K0.out W1 (Below.refl _ _)).mono ?_
  rintro e w2 ⟨rfl, hb2⟩
  have HB2 := Lib.hid hb2
  clear hb2
  by_cases h200 : ls.length ≤ 200
  · have hd : decide ((ls.length : Int) > 200) = false := decide_eq_false (by omega)
    have hd2 : decide (200 < ls.length) = false := decide_eq_false (by omega)
    have HN := Lib.hid h200
    clear h200
    go_wp2_with fail
    refine (HC.out.new 200 w2 (by decide) (by decide)).mono ?_
    rintro e w3 ⟨b, F0, rfl, htk, hF0, hb3⟩
    have H3 : Hid (∃ F, Law Tk W1 b 200 (putsF ls 0) F w3) := Lib.hid ⟨F0, ⟨htk, fun x hx => Nat.le_trans HB2.out.size (hF0 x hx), bT' HB2.out hb3 HB2.out.size⟩⟩
    clear htk hF0 hb3 hd hd2
    go_wp2
    go_loopw [9, 10] (fun nv iv wr => ∃ k m : Nat, nv = .int .i64 (m : Int) ∧ iv = .int .i64 (k : Int) ∧ k ≤ ls.length ∧ m = (putsF ls k).length ∧ Hid (∃ F, Law Tk W1 b 200 (putsF ls k) F wr)) (fun _ v _ => ls.length - (intOf v).toNat)
    case atStart => exact ⟨0, 0, rfl, rfl, Nat.zero_le _, rfl, H3⟩
    case round =>
      clear H3
      obtain ⟨k, m, rfl, rfl, hk, hm, HP⟩ := hrel
      by_cases hlt : k < ls.length
      · have hkz : (k : Int) < (ls.length : Int) := by omega
        have hk0 : (0 : Int) ≤ (k : Int) := by omega
        have hri : IntKind.i64.wrap ((k : Int) + 1) = ((k + 1 : Nat) : Int) := by rw [IntKind.wrap_i64]; have := HN.out; omega
        obtain ⟨F, hP⟩ := HP.out
        have hm2 : m ≤ 200 := by rw [hm]; exact (HC.out.ok hP.tk).2.2.1
        have hrm : IntKind.i64.wrap ((m : Int) + 1) = ((m + 1 : Nat) : Int) := by rw [IntKind.wrap_i64]; omega
        obtain ⟨x, hx⟩ : ∃ x, ls[k]? = some x := ⟨_, List.getElem?_eq_getElem hlt⟩
        have hgd : ls.getD k (0, 0, 0) = x := by rw [List.getD_eq_getElem?_getD, hx]; rfl
        obtain ⟨g, off, rfl, e0, e1, e2⟩ := stampAt (H1.out.2.2.2.2.2.below hP.below) hx
        have hxI := HI.out.2.2 x (List.mem_of_getElem? hx)
        have HPU := Lib.hid (show putsF ls (k + 1) = putL 200 (putsF ls k) x (m : Int) from by rw [hm, ← hgd]; rfl)
        have HQ := Lib.hid (And.intro hP (And.intro hlt (And.intro hxI (And.intro hm hm2))))
        clear hP hx hgd hxI hlt hk hm hm2
        go_wp2_with fail
        refine (of7_c _ _ _ _).mono ?_
        rintro e w5 ⟨rfl, hb5⟩
        have hP5 := HQ.out.1.keep HC.out hb5
        have KP := Lib.hid (HC.out.put x (m : Int) hP5.tk HQ.out.2.2.1 (by have := HQ.out.2.2.2.2; constructor <;> omega))
        have H5 := Lib.hid hP5
        clear hb5 hP5 e0 e1 e2
        go_wp2_with fail
        refine (KP.out).mono ?_
        rintro e w6 ⟨rfl, F', hT6, hw6, hl6⟩
        have hP6 := H5.out.turn hT6 hw6 hl6
        rw [← HPU.out] at hP6
        have H6 := Lib.hid hP6
        obtain ⟨E, hE⟩ : ∃ E, putE 200 (putsF ls k) x = E := ⟨_, rfl⟩
        rw [hE]
        have HE := Lib.hid hE
        clear hT6 hw6 hl6 hP6 hE
        by_cases h0 : E = 0
        · have hz : (E == 0) = true := by simpa using h0
          have HM := Lib.hid (show m + 1 = (putsF ls (k + 1)).length from by rw [HPU.out]; unfold putL; rw [if_pos (by rw [HE.out]; exact h0), List.length_append, ← HQ.out.2.2.2.1]; rfl)
          clear h0
          go_wp2
          exact ⟨⟨k + 1, m + 1, rfl, rfl, HQ.out.2.1, HM.out, Lib.hid ⟨F', H6.out⟩⟩, by have := HQ.out.2.1; simp [intOf]; omega⟩
        · have hz : (E == 0) = false := by simpa using h0
          have HM := Lib.hid (show m = (putsF ls (k + 1)).length from by rw [HPU.out]; unfold putL; rw [if_neg (by rw [HE.out]; exact h0)]; exact HQ.out.2.2.2.1)
          clear h0
          go_wp2
          exact ⟨⟨k + 1, m, rfl, rfl, HQ.out.2.1, HM.out, Lib.hid ⟨F', H6.out⟩⟩, by have := HQ.out.2.1; simp [intOf]; omega⟩
      · obtain rfl : k = ls.length := by omega
        have hkz : ¬ ((ls.length : Int) < (ls.length : Int)) := by omega
        obtain ⟨F, hP⟩ := HP.out
        have hpl := putsF_placed ls ls.length
        obtain ⟨L, hL⟩ : ∃ L, putsF ls ls.length = L := ⟨_, rfl⟩
        rw [hL] at hP hm hpl
        have hok := HC.out.ok hP.tk
        have HQ := Lib.hid (And.intro hP (And.intro hpl (And.intro hm hok)))
        obtain ⟨x0, x1, x2⟩ := cells3 (kbE H1.out.2.1 hP.below) (Below.refl _ _)
        clear hP hpl hm hL HP hk hok
        go_wp2_with fail
        clear x0 x1 x2
        refine (of7_c _ _ _ _).mono ?_
        rintro e w7 ⟨rfl, hb7⟩
        have hP7 := HQ.out.1.keep HC.out hb7
        have KB := Lib.hid (HC.out.back s hP7.tk HI.out.1)
        have H7 := Lib.hid hP7
        clear hb7 hP7
        go_wp2_with fail
        refine KB.out.mono ?_
        rintro e w8 ⟨pb, cb, F1, rfl, hbl, hbn, hT8, hw8, hl8⟩
        obtain ⟨hsp1, hX1⟩ := back_all (s := s) HQ.out.2.2.2.2.2.2.1
        obtain ⟨L1, hL1⟩ : ∃ M, backL L s = M := ⟨_, rfl⟩
        obtain ⟨N1, hN1⟩ : ∃ N, backN L s = N := ⟨_, rfl⟩
        obtain ⟨X1, hXX1⟩ : ∃ X, backX L s = X := ⟨_, rfl⟩
        rw [hL1, hN1] at hsp1
        rw [hN1, hXX1] at hX1
        rw [hL1] at hT8
        rw [hXX1] at hbl hbn ⊢
        have hP8 := H7.out.turn hT8 hw8 hl8
        have H8 := Lib.hid (And.intro hP8 (And.intro hbl (And.intro hbn (And.intro hsp1 hX1))))
        obtain ⟨x0, x1, x2⟩ := cells3 (kbE H1.out.2.2.1 hP8.below) (Below.refl _ _)
        clear hbl hbn hT8 hw8 hl8 hsp1 hX1 hL1 hN1 hXX1 hP8 KB
        go_wp2_with fail
        clear x0 x1 x2
        refine (of7_c _ _ _ _).mono ?_
        rintro e w9 ⟨rfl, hb9⟩
        have hP9 := H8.out.1.keep HC.out hb9
        have KF := Lib.hid (HC.out.free t hP9.tk HI.out.2.1)
        have H9 := Lib.hid (And.intro hP9 (H8.out.2.1.below hb9))
        clear hb9 hP9
        go_wp2_with fail
        refine KF.out.mono ?_
        rintro e w10 ⟨pf, cf, F2, rfl, hfl, hfn, hT10, hw10, hl10⟩
        obtain ⟨hsp2, hX2⟩ := free_all (s := t) (HC.out.ok H9.out.1.tk).2.2.2.1
        obtain ⟨L2, hL2⟩ : ∃ M, freeL L1 t = M := ⟨_, rfl⟩
        obtain ⟨N2, hN2⟩ : ∃ N, freeN L1 t = N := ⟨_, rfl⟩
        obtain ⟨X2, hXX2⟩ : ∃ X, freeX L1 t = X := ⟨_, rfl⟩
        rw [hL2, hN2] at hsp2
        rw [hN2, hXX2] at hX2
        rw [hL2] at hT10
        rw [hXX2] at hfl hfn ⊢
        have hP10 := H9.out.1.turn hT10 hw10 hl10
        have hbl10 := listLeaves hl10 H9.out.2 (fun g off e h => (H8.out.2.2.1 g off e h).1)
        have hpl := HQ.out.2.1
        rw [H8.out.2.2.2.1, hsp2] at hpl
        have hlen : m = N2.length + L2.length + N1.length := by rw [HQ.out.2.2.1, H8.out.2.2.2.1, hsp2]; simp; omega
        have hm200 : m ≤ 200 := by rw [HQ.out.2.2.1]; exact HQ.out.2.2.2.2.2.1
        have hpN2 : Placed 0 N2 := hpl.left.left
        have hpL2 : Placed N2.length L2 := by have := hpl.left.right; rwa [Nat.zero_add] at this
        have hpN1 : Placed (N2.length + L2.length) N1 := by have := hpl.right; rw [List.length_append, Nat.zero_add] at this; exact this
        obtain ⟨n2, hn2⟩ : ∃ n, X2.length = n := ⟨_, rfl⟩
        obtain ⟨n1, hn1⟩ : ∃ n, X1.length = n := ⟨_, rfl⟩
        obtain ⟨l2, hl2⟩ : ∃ n, L2.length = n := ⟨_, rfl⟩
        have hNn2 : N2.length = n2 := by rw [← hn2, hX2]; simp
        have hNn1 : N1.length = n1 := by rw [← hn1, H8.out.2.2.2.2]; simp
        rw [hNn2] at hpL2 hpN1 hlen
        rw [hl2] at hpN1 hlen
        rw [hNn1] at hlen
        have hx2 : ∀ i, i < n2 → X2[i]? = some (i : Int) := fun i hi => by
          have h1 : N2[i]? = some N2[i] := List.getElem?_eq_getElem (by omega)
          rw [hX2, List.getElem?_map, h1]
          have := hpN2 i _ h1
          rw [Nat.zero_add] at this
          simp [this]
        have hx1 : ∀ i, i < n1 → X1[i]? = some ((n2 + l2 + (n1 - 1 - i) : Nat) : Int) := fun i hi => by
          have h1 : N1[n1 - 1 - i]? = some N1[n1 - 1 - i] := List.getElem?_eq_getElem (by omega)
          rw [H8.out.2.2.2.2, List.getElem?_map, List.getElem?_reverse (by omega), hNn1, h1]
          have := hpN1 _ _ h1
          simp [this]
        have hxL : ∀ k, k < l2 → (gE L2 k).2 = ((n2 + k : Nat) : Int) := fun k hk => hpL2 k _ (gE_get (by omega))
        obtain ⟨kb, hkb⟩ : ∃ b, w10.heap.size = b := ⟨_, rfl⟩
        obtain ⟨W3, hW3⟩ : ∃ W, w10.alloc (.cells #[.int .i64 0] 3) = W := ⟨_, rfl⟩
        have hb3 : Below w10.heap.size w10 W3 := hW3 ▸ bA' (Below.refl _ _) (Nat.le_refl _) _
        have hs3 : W3.heap.size = kb + 1 := by rw [← hW3, World.size_alloc, hkb]
        have hK0 : Hid (KI W3 kb ((0 : Nat) : Int) W3) := Lib.hid ⟨⟨rfl, rfl, rfl, Nat.le_refl _, fun _ _ _ => rfl⟩, by rw [← hW3, ← hkb]; exact World.alloc_heap_new w10 _⟩
        have hkw : W1.heap.size ≤ kb := by rw [← hkb]; exact hP10.below.size
        have hg1 : ∀ g off, pb = some ⟨g, off, none⟩ → X1 ≠ [] → g ≠ kb := fun g off e h0 => by
          have h1 := hbl10
          rw [e] at h1
          have := numLt h1 h0
          omega
        have hg2 : ∀ g off, pf = some ⟨g, off, none⟩ → X2 ≠ [] → g ≠ kb := fun g off e h0 => by
          have h1 := hfl
          rw [e] at h1
          have := numLt h1 h0
          omega
        have hF2 : ∀ x, F2 x → x < kb := fun x hx => by rw [← hkb]; exact HC.out.lt hT10 x hx
        have HP := Lib.hid (hP10.keep HC.out hb3)
        have HLL := Lib.hid (And.intro (hbl10.below hb3) (And.intro (hfl.below hb3) (And.intro hg1 (And.intro hg2 hF2))))
        have HX := Lib.hid (And.intro hx2 (And.intro hx1 hxL))
        have HNM := Lib.hid (And.intro hn2 (And.intro hn1 (And.intro hl2 (And.intro hlen (And.intro hm200 (And.intro hs3 hkw))))))
        have HW3 := Lib.hid (And.intro hW3 hkb)
        rw [hn1, hn2]
        clear hsp2 hX2 hL2 hN2 hXX2 hT10 hw10 hl10 hfl hfn hP10 hbl10 hpl hlen hm200 hpN2 hpL2 hpN1 hNn2 hNn1 hx2 hx1 hxL hb3 hs3 hkw hg1 hg2 hF2 hn2 hn1 hl2 hW3 hkb KF
        go_wp2_with fail
        rw [HW3.out.1]
        simp only [HW3.out.2]
        go_loopw [14] (fun iv wr => ∃ i : Nat, iv = .int .i64 (i : Int) ∧ i ≤ n2 ∧ Hid (KI W3 kb (i : Int) wr)) (fun v _ => n2 - (intOf v).toNat)
        case atStart => exact ⟨0, rfl, Nat.zero_le _, hK0⟩
        case round =>
          clear hK0
          obtain ⟨i, rfl, hi, HK⟩ := hrel
          by_cases hlt : i < n2
          · have hiz : (i : Int) < (n2 : Int) := by omega
            have hi0z : (0 : Int) ≤ (i : Int) := by omega
            have hri : IntKind.i64.wrap ((i : Int) + 1) = ((i + 1 : Nat) : Int) := by rw [IntKind.wrap_i64]; have := HNM.out; omega
            obtain ⟨g, off, rfl, r0⟩ := numAt (listKI HK.out HLL.out.2.1 HLL.out.2.2.2.1) (HX.out.1 i hlt)
            obtain ⟨c0, c1⟩ := HK.out.cell
            have hne : ((i : Int) != (i : Int)) = false := by simp
            have HI2 := Lib.hid hlt
            clear hlt hi
            go_wp2_with fail
            go_quiet (fail)
            have HK2 := Lib.hid (HK.out.drew nq)
            obtain ⟨d0, d1⟩ := HK2.out.cell
            clear r0 c0 c1
            go_wp2
            exact ⟨⟨i + 1, rfl, HI2.out, Lib.hid (HK2.out.set _)⟩, by have := HI2.out; simp [intOf]; omega⟩
          · obtain rfl : i = n2 := by omega
            have hiz : ¬ ((i : Int) < (i : Int)) := by omega
            have hT := HC.out.keep HP.out.tk HK.out.lv.size (fun x hx => HK.out.lv.same x (HC.out.lt HP.out.tk x hx) (fun e => by have := HLL.out.2.2.2.2 x hx; omega))
            have KA := Lib.hid (HC.out.all hT)
            clear hT hi
            go_wp2_with fail
            refine KA.out.mono ?_
            rintro e w14 ⟨gf, lb, rfl, EG, hb14, hsafe⟩
            have hK14 := HK.out.below hb14
            rw [HNM.out.2.2.1] at hsafe
            have HK14 := Lib.hid (And.intro hK14 hb14.size)
            clear hK14 hb14 KA
            go_wp2_with fail
            refine (wpIn_wide (n := 0)).1 ?_
            apply range_lawP1 (gf := gf) (lb := lb) rfl EG hsafe (fun _ => rfl)
              (fun _ k W => KI W3 kb ((i + k : Nat) : Int) W) (fun _ _ _ _ => False) (fun _ => KI.own (v := fun k => ((i + k : Nat) : Int)) HK14.out.1.lv.size (by have := HNM.out.2.2.2.2.2.1; omega)) ?hIx ?hIn ?h0 _ ?assign ?body ?done ?stop
            case hIx => rintro c hi s A C row h; exact h.elim
            case stop => exact fun D hi c k W _ _ _ h _ => h.elim
            case hIn => exact fun hi k A C _ _ h hin => KI.inner h hin (by have := HNM.out.2.2.2.2.2.1; have := HK14.out.1.lv.size; omega) (by have := HK14.out.1.lv.size; omega)
            case h0 => exact fun W' hb' _ => HK14.out.1.below hb'
            case assign =>
              rintro l hi k W K _ _ hj hk hK
              have HJ := Lib.hid hj
              clear hj
              gi_wp2
              exact hK _ (Below.refl _ _) HJ.out
            case body =>
              rintro l hi k W _ _ hj hk
              obtain ⟨c0, c1⟩ := hj.cell
              have hxv := HX.out.2.2 k hk
              have HJ := Lib.hid (show KI W3 kb ((i + k : Nat) : Int) W from hj)
              have hk3 : i + k + 1 ≤ 200 := by have := HNM.out; omega
              obtain ⟨z, hz⟩ : ∃ z : Nat, i + k = z := ⟨_, rfl⟩
              have hz1 : i + (k + 1) = z + 1 := by omega
              rw [hz] at c0 hxv HJ hk3
              have hne : ((z : Int) != (z : Int)) = false := by simp
              have hri : IntKind.i64.wrap ((z : Int) + 1) = ((z + 1 : Nat) : Int) := by rw [IntKind.wrap_i64]; omega
              rw [hxv]
              have HZ := Lib.hid hz1
              clear hj hz hz1 hxv hk3 hsafe
              gi_wp2
              refine ⟨⟨by simp, fun b u hb hu hc => ?_⟩, ⟨by simp, fun b u hs hu _ => ?_⟩, ?_⟩
              · refine (heap_setCell_other _ ⟨kb, 0, none⟩ b _ (fun e => ?_)).trans hu
                have h1 := HK14.out.1.lv.size
                have h2 := HNM.out.2.2.2.2.2.1
                dsimp only at e
                omega
              · refine (heap_setCell_other _ ⟨kb, 0, none⟩ b _ (fun e => ?_)).trans hu
                have h1 := HK14.out.1.lv.size
                have h2 := HNM.out.2.2.2.2.2.1
                dsimp only at e
                rcases hs with hs | hs
                · exact hs.elim
                · omega
              · show KI W3 kb ((i + (k + 1) : Nat) : Int) _
                rw [HZ.out]
                exact HJ.out.set _
            case done =>
              rintro D hi W hD _ hj hdef
              have hdl : kb < D := by
                have h1 := HK14.out.1.lv.size
                have h2 := HNM.out.2.2.2.2.2.1
                omega
              have HD := Lib.hid (show KI W3 kb ((i + l2 : Nat) : Int) W ∧ W.heap[D]? = some (.deferred (some [])) from ⟨hj, hdef⟩)
              have HDL := Lib.hid hdl
              have hw1 : IntKind.i64.wrap ((n1 : Int) - 1) = (n1 : Int) - 1 := by have := HNM.out; rw [IntKind.wrap_i64] <;> omega
              clear hj hdef hD hdl hsafe
              go_wp2
              go_loopw [17] (fun iv wr => ∃ (j : Nat) (v : Int), iv = .int .i64 v ∧ v = (j : Int) - 1 ∧ j ≤ n1 ∧ Hid (KI W3 kb ((i + l2 + (n1 - j) : Nat) : Int) wr ∧ wr.heap[D]? = some (.deferred (some [])))) (fun v _ => (intOf v + 1).toNat)
              case atStart => exact ⟨n1, _, rfl, rfl, Nat.le_refl _, Lib.hid (by rw [Nat.sub_self, Nat.add_zero]; exact HD.out)⟩
              case round =>
                clear HD
                obtain ⟨j, v, rfl, hv, hj, HK⟩ := hrel
                cases j with
                | zero =>
                  obtain rfl : v = -1 := by omega
                  clear hv
                  obtain ⟨z, hz⟩ : ∃ z : Nat, i + l2 + (n1 - 0) = z := ⟨_, rfl⟩
                  rw [hz] at HK
                  have hzm : ((z : Int) == (m : Int)) = true := by have := HNM.out; rw [beq_iff_eq]; omega
                  obtain ⟨c0, c1⟩ := HK.out.1.cell
                  have hr0 := (HK.out.1.lv.same (w.heap.size + 1 + 1) (by have := HNM.out; have := H1.out.2.2.2.2.1; omega) (by have := HNM.out; have := H1.out.2.2.2.2.1; omega)).trans (kbE H1.out.2.2.2.1 HP.out.below)
                  have r0 : wr.cell? ⟨w.heap.size + 1 + 1, 0, none⟩ = some (.bool false) := by unfold World.cell?; rw [hr0]; rfl
                  have f0 := frozen_of_row _ (w.heap.size + 1 + 1) 0 _ _ hr0
                  have hbw : Below w.heap.size w wr := HK.out.1.under (by have := HNM.out; have := H1.out.2.2.2.2.1; omega) (bT' H1.out.1 HP.out.below H1.out.1.size)
                  have HR := Lib.hid (And.intro (heap_setCell_same _ (w.heap.size + 1 + 1) 0 _ _ (.bool true) hr0) (And.intro (below_set hbw (show w.heap.size ≤ w.heap.size + 1 + 1 by omega) (.bool true)) (And.intro ((heap_setCell_other _ ⟨w.heap.size + 1 + 1, 0, none⟩ D (.bool true) (by show D ≠ w.heap.size + 1 + 1; have := HNM.out; have := H1.out.2.2.2.2.1; have := HDL.out; omega)).trans HK.out.2) (show w.heap.size + 1 + 1 < D from by have := HNM.out; have := H1.out.2.2.2.2.1; have := HDL.out; omega))))
                  clear hr0 hbw hz
                  go_wp2
                  refine ⟨by simp, .inl ⟨_, _, rfl, run_takeDeferred HR.out.2.2.1, ?_⟩⟩
                  obtain ⟨hX1, hbe, hX3, hD1⟩ := HR.out
                  have h0 : ((wr.setCell ⟨w.heap.size + 1 + 1, 0, none⟩ (.bool true)).putObj D (.deferred none)).heap[w.heap.size + 1 + 1]? = some (.cells #[.bool true] 4 (0, 0)) := (World.putObj_heap_other (by omega)).trans hX1
                  have h : ((wr.setCell ⟨w.heap.size + 1 + 1, 0, none⟩ (.bool true)).putObj D (.deferred none)).cell? ⟨w.heap.size + 1 + 1, 0, none⟩ = some (.bool true) := by unfold World.cell?; rw [h0]; rfl
                  refine ⟨.bool true, ?_, rfl, hbe.os, hbe.tape, hbe.output, by simpa using hbe.size, fun j hj => (World.putObj_heap_other (by omega)).trans (hbe.block j hj)⟩
                  simp [results, Try.results7, go_sem, h]
                | succ u =>
                  obtain rfl : v = (u : Int) := by omega
                  clear hv
                  obtain ⟨z, hz⟩ : ∃ z : Nat, i + l2 + (n1 - (u + 1)) = z := ⟨_, rfl⟩
                  have hz1 : i + l2 + (n1 - u) = z + 1 := by omega
                  have hx := HX.out.2.1 u (by omega)
                  rw [show i + l2 + (n1 - 1 - u) = z from by omega] at hx
                  rw [hz] at HK
                  obtain ⟨g, off, rfl, r0⟩ := numAt (listKI HK.out.1 HLL.out.1 HLL.out.2.2.1) hx
                  obtain ⟨c0, c1⟩ := HK.out.1.cell
                  have hz200 : z + 1 ≤ 200 := by have := HNM.out; omega
                  have hne : ((z : Int) != (z : Int)) = false := by simp
                  have hri : IntKind.i64.wrap ((z : Int) + 1) = ((z + 1 : Nat) : Int) := by rw [IntKind.wrap_i64]; omega
                  have hi1 : IntKind.i64.wrap ((u : Int) - 1) = (u : Int) - 1 := by have := HNM.out; rw [IntKind.wrap_i64] <;> omega
                  have hu0 : (0 : Int) ≤ (u : Int) := by omega
                  have hul : (u : Int) < (n1 : Int) := by omega
                  have HU := Lib.hid (And.intro hj hz1)
                  clear hz hz1 hx hj hz200
                  go_wp2_with fail
                  go_quiet (fail)
                  have HK2 := Lib.hid (And.intro (HK.out.1.drew nq) HK.out.2)
                  obtain ⟨d0, d1⟩ := HK2.out.1.cell
                  clear r0 c0 c1
                  go_wp2
                  exact ⟨⟨u, _, rfl, rfl, by have := HU.out.1; omega, Lib.hid ⟨by rw [HU.out.2]; exact HK2.out.1.set _, (heap_setCell_other _ ⟨kb, 0, none⟩ D _ (by show D ≠ kb; have := HDL.out; omega)).trans HK2.out.2⟩⟩, by simp [intOf] <;> omega⟩
  · have hd : decide ((ls.length : Int) > 200) = true := decide_eq_true (by omega)
    have hd2 : decide (200 < ls.length) = true := decide_eq_true (by omega)
    go_wp2_with fail
    refine (K0.out w2 HB2.out).mono ?_
    rintro e w3 ⟨rfl, hb3⟩
    have hr3 := kbE H1.out.2.2.2.1 (bT' HB2.out hb3 HB2.out.size)
    have r0 : w3.cell? ⟨w.heap.size + 1 + 1, 0, none⟩ = some (.bool false) := by unfold World.cell?; rw [hr3]; rfl
    have f0 := frozen_of_row _ (w.heap.size + 1 + 1) 0 _ _ hr3
    have HB3 := Lib.hid (And.intro (bT' H1.out.1 (bT' HB2.out hb3 HB2.out.size) H1.out.1.size) (heap_setCell_same _ (w.heap.size + 1 + 1) 0 _ _ (.bool true) hr3))
    clear hb3 hr3
    go_wp2
    refine ⟨.bool true, ?_, rfl, below_set HB3.out.1 (by omega) _⟩
    have h : (w3.setCell ⟨w.heap.size + 1 + 1, 0, none⟩ (.bool true)).cell? ⟨w.heap.size + 1 + 1, 0, none⟩ = some (.bool true) := by unfold World.cell?; rw [HB3.out.2]; rfl
    simp [results, Try.results7, go_sem, h]
end Go.Proofs.Ytibphmddepfgjaa.Tr
