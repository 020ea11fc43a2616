/-
  The law HeapPops over this seat's translation: whatever was done, what is popped rises. Conditions: those that each theorem states.
-/
import Derived.Test.YtngeinmpnjfhfaaHpIndex
namespace Go.Proofs.Ytngeinmpnjfhfaa
open Go.RowKit Go.Shelf Go.Lib Go.Sort Hp Go.Maps

/-- While calls are made. -/
structure DoneI (w : World) (hb mb : Nat) (i : Nat) (sv : Value) (es : List It) (wr : World) : Prop where
  below : Below w.heap.size w wr
  own : Own w.heap.size wr hb sv mb es
  len : es.length ≤ i
/-- While entries are popped. -/
structure PopI (w : World) (hb mb b7 n0 i : Nat) (sv mv : Value) (es : List It) (ms : List Int) (la : It) (wr : World) : Prop where
  below : Below w.heap.size w wr
  own : Own w.heap.size wr hb sv mb es
  cnt : es.length + i = n0
  mlen : ms.length = i
  row : Nums wr w.heap.size mv ms
  last : wr.heap[b7]? = some (.cells #[.int .i64 la.1, .int .i64 la.2] 33 (0, 0))
  base : w.heap.size ≤ b7
  ap : some b7 ≠ sv.ownBlock
  lt : 0 < i → ∀ x ∈ es, ltE la x = true
  new : ∀ k ∈ ms, ∀ x ∈ es, x.1 ≠ k
theorem PopI.on {w wr W : World} {hb mb b7 n0 i : Nat} {sv mv : Value} {es : List It} {ms : List Int} {la : It} (h : PopI w hb mb b7 n0 i sv mv es ms la wr) (hB : Below wr.heap.size wr W) : PopI w hb mb b7 n0 i sv mv es ms la W :=
  ⟨bT' h.below hB h.below.size, h.own.below hB, h.cnt, h.mlen, h.row.below hB, (hB.block _ (Array.getElem?_eq_some_iff.1 h.last).1).trans h.last, h.base, h.ap, h.lt, h.new⟩
theorem lt_of_le {a b : It} (h : le a b) (hne : a ≠ b) : ltE a b = true := by
  cases hc : ltE a b with
  | true => rfl
  | false => exact absurd (le_antisymm h hc) hne
theorem tail_lt {es es' : List It} (hd : Dist es) (ho : Ord es) (h : es.Perm (Hp.g es 0 :: es')) : ∀ x ∈ es', ltE (Hp.g es 0) x = true ∧ x.1 ≠ (Hp.g es 0).1 := by
  intro x hx
  have h1 := (dist_cons (keys_perm h hd)).2 x hx
  obtain ⟨i, hi, rfl⟩ := mem_g.1 (h.mem_iff.2 (List.mem_cons_of_mem _ hx))
  exact ⟨lt_of_le (ho.least i hi) fun e => h1 (by rw [← e]), h1⟩
theorem PopI.apart {w wr : World} {hb mb b7 n0 i : Nat} {sv mv : Value} {es : List It} {ms : List Int} {la : It} (h : PopI w hb mb b7 n0 i sv mv es ms la wr) : b7 ≠ hb ∧ b7 ≠ mb ∧ ∀ g, mv.ownBlock = some g → g ≠ b7 ∧ g ≠ hb ∧ g ≠ mb ∧ some g ≠ sv.ownBlock ∧ g < wr.heap.size := by
  refine ⟨?_, ?_, fun g e => ?_⟩
  · rintro rfl
    have := h.last.symm.trans h.own.heap.box
    simp at this
  · rintro rfl
    obtain ⟨D, m, ⟨ent, clock, k1, _⟩, _⟩ := h.own.heap.tab
    have := h.last.symm.trans k1
    simp at this
  · rcases h.row.2 with ⟨e2, _⟩ | ⟨g', cap, cur, e2, _, hg, _⟩
    · rw [e2] at e; cases e
    · rw [e2] at e
      obtain rfl : g' = g := by simpa [Value.ownBlock] using e
      obtain ⟨k1, k2, k3⟩ := h.own.other hg (by decide) (by decide)
      refine ⟨?_, k1, k2, k3, (Array.getElem?_eq_some_iff.1 hg).1⟩
      rintro rfl
      have := h.last.symm.trans hg
      simp at this
/-- What popping leaves of the rest. -/
theorem PopI.mid {w wb wc : World} {hb mb b7 n0 i : Nat} {sv mv : Value} {es : List It} {ms : List Int} {la : It} (h : PopI w hb mb b7 n0 i sv mv es ms la wb) (hl : Left w.heap.size hb mb sv wb wc) :
    wc.heap[b7]? = some (.cells #[.int .i64 la.1, .int .i64 la.2] 33 (0, 0)) ∧ Nums wc w.heap.size mv ms :=
  ⟨(hl.touch.block b7 (Array.getElem?_eq_some_iff.1 h.last).1 h.apart.1 h.apart.2.1 h.ap).trans h.last, h.row.left h.own hl⟩
/-- The round's end. -/
theorem PopI.next {w wb wc W w8 : World} {hb mb b7 n0 i : Nat} {sv sv' mv v' : Value} {es es' : List It} {ms : List Int} {la x : It} (h : PopI w hb mb b7 n0 i sv mv es ms la wb) (hpos : 0 < es.length) (hx : Hp.g es 0 = x)
    (ho : Own w.heap.size wc hb sv' mb es') (ht : Tail es es') (hsm : Same sv sv' wb) (hl : Left w.heap.size hb mb sv wb wc) (hW : Below wc.heap.size wc W)
    (hg : W.grownBy w8 mv.ownBlock) (hown : w8.ownsRow w.heap.size 3 1 v' (ms.length + 1) (ms.map (Value.int .i64) ++ [.int .i64 x.1])) (hloc : v'.ownBlock = mv.ownBlock ∨ v'.ownBlock = some W.heap.size) :
    PopI w hb mb b7 n0 (i + 1) sv' v' es' (ms ++ [x.1]) x ((w8.setCell ⟨b7, 0, none⟩ (.int .i64 x.1)).setCell ⟨b7, 1, none⟩ (.int .i64 x.2)) := by
  obtain ⟨a1, a2, a3⟩ := h.apart
  obtain ⟨m1, m2⟩ := h.mid hl
  unfold Tail at ht
  rw [if_pos hpos] at ht
  have htl := tail_lt h.own.heap.dist h.own.heap.ord ht
  rw [hx] at ht htl
  have hb7c := (Array.getElem?_eq_some_iff.1 m1).1
  have hb7b := (Array.getElem?_eq_some_iff.1 h.last).1
  have ha1 : b7 ≠ hb := by
    exact a1
  have hap' : some b7 ≠ sv'.ownBlock := by
    rcases hsm with e | e
    · rw [e]; exact h.ap
    · intro e2
      have := e _ e2.symm
      omega
  have hh : ∀ k, k ≠ b7 → ((w8.setCell ⟨b7, 0, none⟩ (.int .i64 x.1)).setCell ⟨b7, 1, none⟩ (.int .i64 x.2)).heap[k]? = w8.heap[k]? := fun k hk => by
    rw [heap_setCell_other _ ⟨b7, 1, none⟩ k _ hk, heap_setCell_other _ ⟨b7, 0, none⟩ k _ hk]
  have hbm : some b7 ≠ mv.ownBlock := fun e => (a3 b7 e.symm).1 rfl
  have h8 : ∀ k, k < wc.heap.size → some k ≠ mv.ownBlock → w8.heap[k]? = wc.heap[k]? := fun k hk hne => (hg.block k (Nat.lt_of_lt_of_le hk hW.size) hne).trans (hW.block k hk)
  have hlast8 := (h8 b7 hb7c hbm).trans m1
  have hne1 : some hb ≠ mv.ownBlock := fun e => (a3 hb e.symm).2.1 rfl
  have hne2 : some mb ≠ mv.ownBlock := fun e => (a3 mb e.symm).2.2.1 rfl
  have hlt := ho.heap.lt
  have hvb : ∀ g, v'.ownBlock = some g → g ≠ b7 := fun g e => by
    rcases hloc with e2 | e2
    · exact (a3 g (by rw [← e2]; exact e)).1
    · rw [e2] at e
      have : W.heap.size = g := by simpa using e
      have := hW.size
      omega
  have hbw : Below w.heap.size w wc := h.below.trans hl.below
  refine ⟨?_, ⟨ho.heap.same ((hh _ (Ne.symm a1)).trans (h8 _ hlt.1 hne1)) ((hh _ (Ne.symm a2)).trans (h8 _ hlt.2.1 hne2)) fun g e => (hh _ fun e2 => hap' (by rw [← e2]; exact e.symm)).trans (h8 _ (hlt.2.2 g e) fun e2 => ?_), ho.b1, ho.b2, ho.b3⟩, ?_, ?_, ?_, ?_, h.base, hap', ?_, ?_⟩
  · have hgB : ∀ g, mv.ownBlock = some g → w.heap.size ≤ g := fun g e => (h.row.lt g e).1
    have h9 : Below w.heap.size w w8 := ⟨hg.os.trans (hW.os.trans hbw.os), hg.tape.trans (hW.tape.trans hbw.tape), hg.output.trans (hW.output.trans hbw.output), Nat.le_trans hbw.size (Nat.le_trans hW.size hg.size), fun k hk => (h8 k (Nat.lt_of_lt_of_le hk hbw.size) (fun e => by have := hgB k e.symm; omega)).trans (hbw.block k hk)⟩
    exact (h9.setCell (p := ⟨b7, 0, none⟩) h.base _).setCell (p := ⟨b7, 1, none⟩) h.base _
  · obtain ⟨_, _, _, k4, _⟩ := a3 g e2.symm
    rcases hsm with e3 | e3
    · exact k4 (by rw [← e3]; exact e.symm)
    · have := e3 g e
      have := (a3 g e2.symm).2.2.2.2
      omega
  · have := ht.length_eq
    have := h.cnt
    rw [List.length_cons] at *
    omega
  · rw [List.length_append, h.mlen]; rfl
  · have hr : Nums w8 w.heap.size v' (ms ++ [x.1]) := by
      unfold Nums
      rw [List.length_append, List.map_append]
      exact hown
    exact hr.keep fun g e => hh g (hvb g e)
  · have := heap_setCell_same _ b7 1 _ _ (.int .i64 x.2) (heap_setCell_same w8 b7 0 _ _ (.int .i64 x.1) hlast8)
    exact this
  · exact fun _ y hy => (htl y hy).1
  · intro k hk y hy
    rcases List.mem_append.1 hk with h1 | h1
    · exact h.new k h1 y (ht.mem_iff.2 (List.mem_cons_of_mem _ hy))
    · simp at h1
      rw [h1]
      exact (htl y hy).2
theorem infoI : (Try.prog.info? 3).map (fun i => (i.zero, i.size, i.bytes)) = some (some (.int .i64 0), 1, 8) := by kernel_rfl

set_option maxHeartbeats 32000000 in
set_option maxRecDepth 1000000 in
theorem pops_c (q : Option Addr) (cap : Nat) (ys : List Ac) (w : World) (hy : InList cA w q ys) (hyb : ∀ y ∈ ys, 0 ≤ y.1 ∧ y.1 ≤ 255 ∧ W64 y.2.1 ∧ W64 y.2.2) :
    Calls Try.prog 3 #[.slice q ys.length cap] w fun e w' => e = .returned (.bool true) ∧ Below w.heap.size w w' := by
  have KA := Lib.hid fun (W : World) => awake_c W
  have HY := Lib.hid (And.intro hy hyb)
  clear hy hyb
  go_enter Try.func3, Try.ntmps3
  go_wp2_with fail
  refine (KA.out _).mono ?_
  rintro e w1 ⟨rfl, hb1⟩
  have HB1 := Lib.hid hb1
  clear hb1
  by_cases hlen : ys.length ≤ 200
  · have hd : decide ((ys.length : Int) > 200) = false := decide_eq_false (by omega)
    have KN := Lib.hid (new_o w1)
    go_wp2_with fail
    refine KN.out.mono ?_
    rintro e w2 ⟨hb2, hb, mb, sv0, rfl, hown⟩
    have hbw2 := bT' HB1.out hb2 HB1.out.size
    have H2 := Lib.hid (show DoneI w hb mb 0 sv0 [] w2 from ⟨hbw2, ⟨hown.heap, Nat.le_trans HB1.out.size hown.b1, Nat.le_trans HB1.out.size hown.b2, fun g e => Nat.le_trans HB1.out.size (hown.b3 g e)⟩, Nat.le_refl _⟩)
    clear hb2 hbw2 hown KN HB1
    go_wp2
    go_loopw [4] (fun iv wr => ∃ (i : Nat) (sv : Value) (es : List It), iv = .int .i64 i ∧ i ≤ ys.length ∧ Hid (DoneI w hb mb i sv es wr)) (fun v _ => ys.length - (intOf v).toNat)
    case atStart => exact ⟨0, sv0, [], rfl, Nat.zero_le _, H2⟩
    case round =>
      clear H2
      obtain ⟨i, sv, es, rfl, hi, HP⟩ := hrel
      by_cases hlt : i < ys.length
      · have hiz : (i : Int) < (ys.length : Int) := by omega
        have hp := HP.out
        obtain ⟨gl, off, rfl, hcells⟩ := (HY.out.1.below hp.below).acts (by omega)
        obtain ⟨c0, c1, c2⟩ := hcells i hlt
        have hdb := HY.out.2 ys[i] (List.getElem_mem hlt)
        obtain ⟨⟨d, xa, xb⟩, hd0⟩ : ∃ y : Ac, ys[i] = y := ⟨_, rfl⟩
        rw [hd0] at c0 c1 c2 hdb
        dsimp only at c0 c1 c2 hdb
        have KD := done_o (d, xa, xb) hp.own hp.below.size hdb (by have := hp.len; omega)
        have hri : IntKind.i64.wrap ((i : Int) + 1) = ((i + 1 : Nat) : Int) := by rw [IntKind.wrap_i64]; omega
        clear hd0 hcells hp hdb
        go_wp2_with fail
        refine KD.mono ?_
        rintro e w5 ⟨rfl, sv5, es5, ho, hs, _, hl⟩
        have HS := Lib.hid (show DoneI w hb mb (i + 1) sv5 es5 w5 from ⟨HP.out.below.trans hl.below, ho, by have := HP.out.len; have := hs.len; omega⟩)
        clear ho hs hl KD c0 c1 c2
        go_wp2
        exact ⟨⟨i + 1, sv5, es5, rfl, by omega, HS⟩, by simp [intOf]; omega⟩
      · obtain rfl : i = ys.length := by omega
        have KL := len_c hb mb sv es wr HP.out.own.heap
        obtain ⟨n0, hn0⟩ : ∃ n0, es.length = n0 := ⟨_, rfl⟩
        rw [hn0] at KL
        have hn1 : n0 ≤ 200 := by have := HP.out.len; omega
        have HN0 := Lib.hid hn0
        have hbA := bA' (Below.refl wr.heap.size wr) (Nat.le_refl _) (.cells #[.int .i64 0, .int .i64 0] 33)
        have HI := Lib.hid (show PopI w hb mb wr.heap.size n0 0 sv (.slice none 0 0) es [] (0, 0) (wr.alloc (.cells #[.int .i64 0, .int .i64 0] 33)) from
          ⟨bT' HP.out.below hbA HP.out.below.size, HP.out.own.below hbA, by omega, rfl, World.ownsRow_nil _ _ _ _, World.alloc_heap_new wr _, HP.out.below.size, fun e => by have := HP.out.own.heap.lt.2.2 _ e.symm; omega, fun h => absurd h (Nat.lt_irrefl _), fun k hk => by cases hk⟩)
        clear hn0 hbA
        go_wp2_with fail
        refine KL.mono ?_
        rintro e w3 ⟨rfl, rfl⟩
        go_wp2
        obtain ⟨b7, hb7⟩ : ∃ b7, wr.heap.size = b7 := ⟨_, rfl⟩
        rw [hb7] at HI ⊢
        generalize wr.alloc (.cells #[.int .i64 0, .int .i64 0] 33) = W3 at *
        clear hb7 HP KL HN0
        go_loopw [6, 8] (fun mv iv wq => ∃ (i : Nat) (sv : Value) (es : List It) (ms : List Int) (la : It), iv = .int .i64 i ∧ i ≤ n0 ∧ Hid (PopI w hb mb b7 n0 i sv mv es ms la wq)) (fun _ v _ => n0 - (intOf v).toNat)
        case atStart => exact ⟨0, sv, es, [], (0, 0), rfl, Nat.zero_le _, HI⟩
        case round =>
          clear HI
          obtain ⟨i, sv, es, ms, la, rfl, hi, HP⟩ := hrel
          by_cases hlt : i < n0
          · have hiz : (i : Int) < (n0 : Int) := by omega
            have hpos : 0 < es.length := by have := HP.out.cnt; omega
            have KF := firstKey_o HP.out.own
            obtain ⟨x, hx⟩ : ∃ x, Hp.g es 0 = x := ⟨_, rfl⟩
            rw [hx] at KF
            obtain ⟨p, mc, rfl, hmx⟩ := HP.out.row.at
            have HX := Lib.hid (And.intro hpos (And.intro hx (show x ∈ es from mem_g.2 ⟨0, hpos, hx⟩)))
            clear hpos hx hmx
            go_wp2_with fail
            refine KF.mono ?_
            rintro e wa ⟨rfl, hba⟩
            have HPa := Lib.hid (HP.out.on hba)
            have KG := get_c hb mb x.1 sv es wa HPa.out.own.heap (HPa.out.own.heap.wf x HX.out.2.2)
            rw [getE_in HPa.out.own.heap.dist HX.out.2.2] at KG
            clear hba KF HP
            go_wp2_with fail
            refine KG.mono ?_
            rintro e wb ⟨rfl, hbb⟩
            have HPb := Lib.hid (HPa.out.on hbb)
            have KP := pop_o HPb.out.own HPb.out.below.size (by have := HPb.out.cnt; omega)
            rw [HX.out.2.1, decide_eq_true HX.out.1] at KP
            clear hbb KG HPa
            go_wp2_with fail
            refine KP.mono ?_
            rintro e wc ⟨rfl, sv', es', ho, ht, hsm, hl⟩
            have hbV := bA' (Below.refl wc.heap.size wc) (Nat.le_refl _) (.cells #[.int .i64 x.1, .int .i64 x.2] 33)
            have hlb := (hbV.block b7 (Array.getElem?_eq_some_iff.1 (HPb.out.mid hl).1).1).trans (HPb.out.mid hl).1
            have hrow := (HPb.out.mid hl).2.below hbV
            have hxb := World.alloc_heap_new wc (.cells #[.int .i64 x.1, .int .i64 x.2] 33)
            have hnb : some b7 ≠ (Value.slice p ms.length mc).ownBlock := fun e => (HPb.out.apart.2.2 _ e.symm).1 rfl
            have hnx : some wc.heap.size ≠ (Value.slice p ms.length mc).ownBlock := fun e => by have := (HPb.out.apart.2.2 _ e.symm).2.2.2.2; have := hl.touch.size; omega
            have HN := Lib.hid (And.intro ho (And.intro ht (And.intro hsm hl)))
            clear ho ht hsm hl KP
            obtain ⟨l0, l1, _⟩ := cell_two hlb
            have hri : IntKind.i64.wrap ((i : Int) + 1) = ((i + 1 : Nat) : Int) := by rw [IntKind.wrap_i64]; omega
            have hxx : (x.2 == x.2) = true := by rw [beq_iff_eq]
            by_cases hi0 : i = 0
            · have hd1 : decide ((i : Int) > 0) = false := decide_eq_false (by omega)
              have hd2 : decide (0 < i) = false := decide_eq_false (by omega)
              have hd3 : ¬ 0 < i := by omega
              clear hi0
              have hcells := hrow.cells
              have KC := contains_out p mc ms x.1 (wc.alloc (.cells #[.int .i64 x.1, .int .i64 x.2] 33)) hcells (fun hm => HPb.out.new _ hm x HX.out.2.2 rfl) (by have := HPb.out.mlen; omega)
              obtain ⟨x0, x1, _⟩ := cell_two hxb
              obtain ⟨i0, hi0, hz0, hz1, hz2⟩ := info_parts infoI
              have HV := Lib.hid (And.intro hxb (And.intro hlb (And.intro hbV (And.intro hnx hnb))))
              clear hcells hxb hlb hbV hnx hnb
              go_wp2_with fail
              refine KC.mono ?_
              rintro e wk ⟨rfl, hwk⟩
              obtain ⟨v1, v2, v3, v4, v5⟩ := HV.out
              rw [hwk] at v1 v2 v3 x0 x1 hrow
              have HV := Lib.hid (And.intro v1 (And.intro v2 (And.intro v3 (And.intro v4 v5))))
              clear v1 v2 v3 v4 v5 hwk KC
              go_wp2_with (first | (at_builtin; refine wpList_append_own_at _ rfl _ _ 31 rfl w.heap.size 3 i0 (.int .i64 0) 1 8 Try.underlying31 hi0 hz0 hz1 hz2 rfl (by decide) _ _ _ rfl (hrow.alloc _) ⟨wk.heap.size, 0, none⟩ 1 1 [.int .i64 x.1] rfl rfl (cell_one_new _ _ _) (ints_oneCell .i64 [x.1]) (by have := HPb.out.mlen; unfold maxLen; omega) (by have := HPb.out.mlen; omega) (by have := HPb.out.below.size; have := HN.out.2.2.2.below.size; have := HV.out.2.2.1.size; have := HN.out.2.2.2.touch.size; simp; omega) ?_; intro v' w8 hown' hgrow hnil hloc; obtain ⟨y0, y1, y2⟩ := cell_two (keep2 hgrow HV.out.1 HV.out.2.2.2.1); obtain ⟨z0, z1, z2⟩ := cell_two (keep2 hgrow HV.out.2.1 HV.out.2.2.2.2); have z3 := frozen_of_row _ b7 0 _ _ (keep2 hgrow HV.out.2.1 HV.out.2.2.2.2)))
              have HR := Lib.hid (PopI.next HPb.out HX.out.1 HX.out.2.1 HN.out.1 HN.out.2.1 HN.out.2.2.1 HN.out.2.2.2 (HV.out.2.2.1.alloc HV.out.2.2.1.size (.cells #[.int .i64 x.1] 3)) hgrow hown' hloc)
              clear hown' hgrow hnil hloc y0 y1 y2 z0 z1 z2 z3
              exact ⟨⟨i + 1, sv', es', ms ++ [x.1], x, rfl, by omega, HR⟩, by simp [intOf]; omega⟩
            · have hd1 : decide ((i : Int) > 0) = true := decide_eq_true (by omega)
              have hd2 : decide (0 < i) = true := decide_eq_true (by omega)
              have hd3 : 0 < i := by omega
              clear hi0
              have KO := order_g la x (wc.alloc (.cells #[.int .i64 x.1, .int .i64 x.2] 33))
              rw [show cmpE la x = -1 from by unfold cmpE; rw [if_pos (HPb.out.lt (by omega) x HX.out.2.2)]] at KO
              go_wp2_with fail
              refine KO.mono ?_
              rintro e wd ⟨rfl, hG⟩
              have hbd : Below _ _ wd := G.below hG
              have hrow := hrow.below hbd
              have hlb := (hbd.block b7 (Array.getElem?_eq_some_iff.1 hlb).1).trans hlb
              have hxb := (hbd.block _ (Array.getElem?_eq_some_iff.1 hxb).1).trans hxb
              have hbV := bT2 hbV hbd
              clear hG hbd KO l0 l1
              have hcells := hrow.cells
              have KC := contains_out p mc ms x.1 wd hcells (fun hm => HPb.out.new _ hm x HX.out.2.2 rfl) (by have := HPb.out.mlen; omega)
              obtain ⟨x0, x1, _⟩ := cell_two hxb
              obtain ⟨i0, hi0, hz0, hz1, hz2⟩ := info_parts infoI
              have HV := Lib.hid (And.intro hxb (And.intro hlb (And.intro hbV (And.intro hnx hnb))))
              clear hcells hxb hlb hbV hnx hnb
              go_wp2_with fail
              refine KC.mono ?_
              rintro e wk ⟨rfl, hwk⟩
              obtain ⟨v1, v2, v3, v4, v5⟩ := HV.out
              rw [hwk] at v1 v2 v3 x0 x1 hrow
              have HV := Lib.hid (And.intro v1 (And.intro v2 (And.intro v3 (And.intro v4 v5))))
              clear v1 v2 v3 v4 v5 hwk KC
              go_wp2_with (first | (at_builtin; refine wpList_append_own_at _ rfl _ _ 31 rfl w.heap.size 3 i0 (.int .i64 0) 1 8 Try.underlying31 hi0 hz0 hz1 hz2 rfl (by decide) _ _ _ rfl (hrow.alloc _) ⟨wk.heap.size, 0, none⟩ 1 1 [.int .i64 x.1] rfl rfl (cell_one_new _ _ _) (ints_oneCell .i64 [x.1]) (by have := HPb.out.mlen; unfold maxLen; omega) (by have := HPb.out.mlen; omega) (by have := HPb.out.below.size; have := HN.out.2.2.2.below.size; have := HV.out.2.2.1.size; have := HN.out.2.2.2.touch.size; simp; omega) ?_; intro v' w8 hown' hgrow hnil hloc; obtain ⟨y0, y1, y2⟩ := cell_two (keep2 hgrow HV.out.1 HV.out.2.2.2.1); obtain ⟨z0, z1, z2⟩ := cell_two (keep2 hgrow HV.out.2.1 HV.out.2.2.2.2); have z3 := frozen_of_row _ b7 0 _ _ (keep2 hgrow HV.out.2.1 HV.out.2.2.2.2)))
              have HR := Lib.hid (PopI.next HPb.out HX.out.1 HX.out.2.1 HN.out.1 HN.out.2.1 HN.out.2.2.1 HN.out.2.2.2 (HV.out.2.2.1.alloc HV.out.2.2.1.size (.cells #[.int .i64 x.1] 3)) hgrow hown' hloc)
              clear hown' hgrow hnil hloc y0 y1 y2 z0 z1 z2 z3
              exact ⟨⟨i + 1, sv', es', ms ++ [x.1], x, rfl, by omega, HR⟩, by simp [intOf]; omega⟩
          · obtain rfl : i = n0 := by omega
            obtain rfl : es = [] := List.eq_nil_of_length_eq_zero (by have := HP.out.cnt; omega)
            have KP := pop_o HP.out.own HP.out.below.size (by decide)
            have hge : Hp.g [] 0 = (0, 0) := rfl
            rw [hge, show decide (0 < ([] : List It).length) = false from rfl] at KP
            clear hge
            go_wp2_with fail
            refine KP.mono ?_
            rintro e wc ⟨rfl, sv', es', ho, ht, _, hl⟩
            obtain rfl : es' = [] := by simpa [Tail] using ht
            have hbV := bA' (Below.refl wc.heap.size wc) (Nat.le_refl _) (.cells #[.int .i64 0, .int .i64 0] 33)
            have KL := len_c hb mb sv' [] _ (ho.below hbV).heap
            have HB := Lib.hid (bT' (HP.out.below.trans hl.below) hbV (HP.out.below.trans hl.below).size)
            clear ho ht hl hbV KP
            go_wp2_with fail
            refine KL.mono ?_
            rintro e wd ⟨rfl, hwd⟩
            have hb := HB.out
            rw [hwd] at hb
            have HB := Lib.hid hb
            clear hb hwd KL
            go_wp2
            go_ret
            exact ⟨rfl, HB.out⟩
  · have hd : decide ((ys.length : Int) > 200) = true := decide_eq_true (by omega)
    go_wp2_with fail
    refine (KA.out _).mono ?_
    rintro e w2 ⟨rfl, hb2⟩
    have HB2 := Lib.hid (bT' HB1.out hb2 HB1.out.size)
    clear hb2
    go_wp2
    go_ret
    exact ⟨rfl, HB2.out⟩
end Go.Proofs.Ytngeinmpnjfhfaa
