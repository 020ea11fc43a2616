/-
  The law BagSorts over this seat's translation: what is gone through rises, and is just what was put in. Conditions: those that each theorem states.
-/
import Derived.Test.YtfjipkkhjjpaiaaAtsC
import Derived.Sort.QuietIn
namespace Go.Proofs.Ytfjipkkhjjpaiaa
open Go.RowKit Go.Shelf Go.Lib Go.Sort St
attribute [local go_sem] Oper.semAt_some

theorem Box.own {A C : World} {B k : Nat} {v : Value} {t : TypeId} {row : Option Nat} (h : Box A k v t) (hgr : A.grownBy C row) (hr : ∀ r, row = some r → B ≤ r ∧ ∃ o : Obj, A.heap[r]? = some o ∧ o.isCells = false) (hk : k < B) : Box C k v t :=
  (hgr.block k h.lt (fun e => by have := (hr k e.symm).1; omega)).trans h
theorem keeps_own {A C W : World} {g e B : Nat} {row : Option Nat} (h : Keeps2 g e W A) (hgr : A.grownBy C row) (hr : ∀ r, row = some r → B ≤ r ∧ ∃ o : Obj, A.heap[r]? = some o ∧ o.isCells = false) (hB : W.heap.size ≤ B) : Keeps2 g e W C :=
  ⟨hgr.os.trans h.os, hgr.tape.trans h.tape, hgr.output.trans h.output, Nat.le_trans h.size hgr.size, fun j hj h1 h2 => (hgr.block j (by have := h.size; omega) (fun e => by have := (hr j e.symm).1; omega)).trans (h.block j hj h1 h2)⟩
theorem from_set {B k : Nat} (W : World) (u : Value) (hk : k < B) : KeepsFrom B W (W.setCell ⟨k, 0, none⟩ u) :=
  ⟨by simp, fun j o hj h _ => (heap_setCell_other _ ⟨k, 0, none⟩ j u (by show j ≠ k; omega)).trans h⟩
theorem kept_set {safe : Nat → Obj → Prop} {k : Nat} (W : World) (u : Value) (hk : ∀ o, ¬ safe k o) : Kept safe W (W.setCell ⟨k, 0, none⟩ u) :=
  ⟨by simp, fun j o hs h => (heap_setCell_other _ ⟨k, 0, none⟩ j u (by rintro rfl; exact hk o hs)).trans h⟩
theorem keeps_below {W A C : World} {g e : Nat} (h : Keeps2 g e W A) (k : Below A.heap.size A C) : Keeps2 g e W C :=
  ⟨k.os.trans h.os, k.tape.trans h.tape, k.output.trans h.output, Nat.le_trans h.size k.size, fun j hj h1 h2 => (k.block j (by have := h.size; omega)).trans (h.block j hj h1 h2)⟩
theorem keeps_set1 {W A : World} {g e : Nat} (h : Keeps2 g e W A) (u : Value) : Keeps2 g e W (A.setCell ⟨g, 0, none⟩ u) :=
  ⟨h.os, h.tape, h.output, by simpa using h.size, fun j hj h1 h2 => (heap_setCell_other _ ⟨g, 0, none⟩ j u h1).trans (h.block j hj h1 h2)⟩
theorem keeps_set2 {W A : World} {g e : Nat} (h : Keeps2 g e W A) (u : Value) : Keeps2 g e W (A.setCell ⟨e, 0, none⟩ u) :=
  ⟨h.os, h.tape, h.output, by simpa using h.size, fun j hj h1 h2 => (heap_setCell_other _ ⟨e, 0, none⟩ j u h2).trans (h.block j hj h1 h2)⟩
theorem keeps_to_below {W A : World} {g e B : Nat} {w : World} (h : Keeps2 g e W A) (hw : Below B w W) (hg : B ≤ g) (he : B ≤ e) (hB : B ≤ W.heap.size) : Below B w A :=
  ⟨h.os.trans hw.os, h.tape.trans hw.tape, h.output.trans hw.output, Nat.le_trans hw.size h.size, fun j hj => (h.block j (by omega) (by omega) (by omega)).trans (hw.block j hj)⟩
theorem Box.set_other {W : World} {k j : Nat} {v u : Value} {t : TypeId} (h : Box W k v t) (hne : k ≠ j) : Box (W.setCell ⟨j, 0, none⟩ u) k v t := (heap_setCell_other W ⟨j, 0, none⟩ k u hne).trans h
theorem InList.ints {W : World} {p : Option Addr} {ys : List Int} (h : InList cI W p ys) (h0 : 0 < ys.length) : ∃ gl off, p = some ⟨gl, off, none⟩ ∧ ∀ i (hi : i < ys.length), W.cell? ⟨gl, off + i, none⟩ = some (.int .i64 ys[i]) := by
  rcases h with rfl | ⟨gl, off, rfl, hc⟩
  · simp at h0
  · refine ⟨gl, off, rfl, fun i hi => hc i _ ?_⟩
    have := flat_get cI_len ys i 0 hi (by omega)
    rw [Nat.mul_one, Nat.add_zero] at this
    rw [this]
    rfl
theorem Ins.countP {xs R : List Int} (h : Ins (fun x : Int => x) [] xs R) (x : Int) : R.countP (fun y => y == x) = xs.countP (fun y => y == x) := by
  rw [List.countP_eq_length_filter, List.countP_eq_length_filter]
  have := h.flt x
  rw [this]
  simp
theorem below_dN {B : Nat} {a w : World} (h : Below B a w) (n : Nat) : Below B a (w.drewN n) := ⟨h.os, h.tape, h.output, h.size, h.block⟩
/-- The last thing gone through. -/
def lastOf (pl : Nat → Int) : Nat → Int
  | 0 => 0
  | k + 1 => pl k

set_option maxRecDepth 1000000 in
set_option maxHeartbeats 16000000 in
theorem sorts_c (q : Option Addr) (cap : Nat) (ys : List Int) (w : World) (hy : InList cI w q ys) :
    Calls Try.prog 4 #[.slice q ys.length cap] w fun e w' => e = .returned (.bool true) ∧ Below w.heap.size w w' := by
  have KA := Lib.hid fun (W : World) => awake_c W
  have HY := Lib.hid hy
  clear hy
  refine (callsIn_wide (n := 0)).1 ?_
  refine callsIn_of_wp_marks Try.func4 rfl trivial ?_ rfl
  simp only [Try.ntmps4, List.size_toArray, List.length_cons, List.length_nil, Nat.reduceAdd, Nat.reduceSub, Array.replicate_succ, Array.replicate_zero, List.push_toArray, List.append_toArray, List.nil_append, List.cons_append]
  gi_wp2_with fail
  refine ⟨trivial, rfl, ?_⟩
  refine callsIn_wide.2 ((KA.out _).mono ?_)
  rintro e w1 ⟨rfl, hb1⟩
  have hbx1 := (Box.new w (.bool false) 4).below hb1
  have hb01 : Below w.heap.size w w1 := (bA' (Below.refl _ _) (Nat.le_refl _) _).trans (by
    have := hb1
    exact ⟨this.os, this.tape, this.output, this.size, fun k hk => this.block k (by simp; omega)⟩)
  have H1 := Lib.hid (And.intro hbx1 hb01)
  clear hbx1 hb01 hb1
  by_cases hlen : ys.length ≤ 200
  · have hd : decide ((ys.length : Int) > 200) = false := decide_eq_false (by omega)
    have KN := Lib.hid (new_I cap q ys w1 (HY.out.same H1.out.2 (Nat.le_refl _)) (by omega))
    gi_wp2_with fail
    refine ⟨trivial, rfl, ?_⟩
    refine callsIn_wide.2 (KN.out.mono ?_)
    rintro e w2 ⟨hb2, b, sv, R, rfl, hown, hins⟩
    have hrl : R.length = ys.length := by have := hins.len; simpa using this
    gi_wp2_with fail
    refine ⟨trivial, rfl, ?_⟩
    refine callsIn_wide.2 ((all_c _ _).mono ?_)
    rintro e w5 ⟨rfl, hw5⟩
    have hs1 := H1.out.2.size
    have hE1 := H1.out.1.lt
    have hb02 := bT' H1.out.2 hb2 hs1
    have hn := (Box.new w2 (.int .i64 0) 3)
    have hbn := bA' (Below.refl w2.heap.size w2) (Nat.le_refl _) (.cells #[.int .i64 0] 3)
    have hl := Box.new (w2.alloc (.cells #[.int .i64 0] 3)) (.int .i64 0) 3
    have hbl := bA' (Below.refl (w2.alloc (.cells #[.int .i64 0] 3)).heap.size (w2.alloc (.cells #[.int .i64 0] 3))) (Nat.le_refl _) (.cells #[.int .i64 0] 3)
    have hn := hn.below hbl
    have hbnl := bT2 hbn hbl
    rw [World.size_alloc] at hl
    have hs4 : ((w2.alloc (.cells #[.int .i64 0] 3)).alloc (.cells #[.int .i64 0] 3)).heap.size = w2.heap.size + 1 + 1 := by rw [World.size_alloc, World.size_alloc]
    rw [hs4]
    generalize (w2.alloc (.cells #[.int .i64 0] 3)).alloc (.cells #[.int .i64 0] 3) = w4 at *
    have hb45 : Below w4.heap.size w4 w5 := hw5 ▸ bA' (Below.refl _ _) (Nat.le_refl _) _
    have hs5 : w5.heap.size = w2.heap.size + 1 + 1 + 1 := by rw [hw5, World.size_alloc, hs4]
    have hbx : w5.heap[w2.heap.size + 1 + 1]? = some (.cells #[.pointer (some ⟨b, 0, none⟩)] 25 (0, 0)) := by
      have := World.alloc_heap_new w4 (.cells #[.pointer (some ⟨b, 0, none⟩)] 25)
      rw [hs4] at this
      rw [hw5]
      exact this
    have hb25 := bT2 hbnl hb45
    have hb05 := bT' hb02 hb25 hb02.size
    have hbag5 := hown.bag.below hb25
    have H5 := Lib.hid (And.intro (hn.below hb45) (And.intro (hl.below hb45) (And.intro hb05 (And.intro hbag5 (And.intro ((H1.out.1.below hb2).below hb25) (And.intro (show w.heap.size < w2.heap.size from by have := hb2.size; omega) (And.intro hins (And.intro (HY.out.same hb05 (Nat.le_refl _)) hown.bag.lt))))))))
    obtain ⟨pl, hpl⟩ : ∃ pl : Nat → Int, ∀ k, R.getD k default = pl k := ⟨fun k => R.getD k default, fun _ => rfl⟩
    have hseq := all_seq (w2.heap.size + 1 + 1) b sv R (safeW w2.heap.size (w2.heap.size + 1)) w5 (by omega) hbx hbag5 (fun k o h1 h2 => ⟨h2, by omega, by omega⟩)
    rw [show (fun k : Nat => (#[.int .i64 (k : Int), .int .i64 (R.getD k default)] : Array Value)) = fun k => #[.int .i64 (k : Int), .int .i64 (pl k)] from funext fun k => by rw [hpl]] at hseq
    have HPL := Lib.hid (And.intro hpl (show ∀ i j, i ≤ j → j < R.length → pl i ≤ pl j from fun i j h1 h2 => by
      rw [← hpl, ← hpl]
      obtain ⟨_, _, _, _, _, hm⟩ := seek_facts_I hbag5.bag
      exact hm i j h1 h2))
    have EG : ∀ args w, (callFunc 38 args).run Try.prog w = .ok (.enter 38 args) w := enters_of Try.func38 (by kernel_rfl) rfl
    clear hb2 hown hins hb02 hn hbn hl hbl hbnl hb45 hbx hb25 hb05 hbag5 hw5 hs4 hpl KN
    gi_wp2_with fail
    apply range_lawF (gf := 38) (lb := #[.pointer (some ⟨w2.heap.size + 1 + 1, 0, none⟩)]) rfl EG (fun bb o h => h.1) hseq (fun _ => rfl)
      (fun k W => Box W w2.heap.size (.int .i64 k) 3 ∧ Box W (w2.heap.size + 1) (.int .i64 (lastOf pl k)) 3 ∧ Keeps2 w2.heap.size (w2.heap.size + 1) w5 W) (fun _ _ _ => False) ?hI ?hIx ⟨H5.out.1, H5.out.2.1, ⟨rfl, rfl, rfl, Nat.le_refl _, fun _ _ _ _ => rfl⟩⟩ _ ?assign ?body ?done ?stop
    case assign =>
      rintro l k W K hj hk hsz hK
      have HJ := Lib.hid hj
      clear hj
      gi_wp2
      exact hK _ (Below.refl _ _) HJ.out
    case hI =>
      rintro k A C row ⟨h1, h2, h3⟩ hgr hr
      exact ⟨h1.own hgr hr (by omega), h2.own hgr hr (by omega), keeps_own h3 hgr hr (Nat.le_refl _)⟩
    case hIx => rintro c s A C row h; exact h.elim
    case stop => exact fun D c k W _ _ h _ => h.elim
    case body =>
      rintro l k W ⟨h1, h2, h3⟩ hsz hk
      have cn := h1.cell
      have cl := h2.cell
      have fn := h1.frozen
      have fl := h2.frozen
      have hs5' : w5.heap.size ≤ W.heap.size := hsz
      have HJ := Lib.hid (And.intro h1 (And.intro h2 h3))
      have hW1 := h2.set (.int .i64 (pl k))
      have hW2 := h1.set_other (u := .int .i64 (pl k)) (show w2.heap.size ≠ w2.heap.size + 1 by omega)
      have cn2 := hW2.cell
      have fn2 := hW2.frozen
      have hwr : IntKind.i64.wrap ((k : Int) + 1) = (k : Int) + 1 := by rw [IntKind.wrap_i64] <;> omega
      have HW := Lib.hid (And.intro hW1 hW2)
      clear h1 h2 h3 hW1 hW2
      by_cases hk0 : k = 0
      · subst hk0
        gi_wp2
        refine ⟨(from_set W _ (by omega)).trans (from_set _ _ (by omega)), (kept_set W _ (fun o h => h.2.2 rfl)).trans (kept_set _ _ (fun o h => h.2.1 rfl)), HW.out.2.set _, HW.out.1.set_other (by omega), keeps_set1 (keeps_set2 HJ.out.2.2 _) _⟩
      · have hk1 : decide ((k : Int) > 0) = true := decide_eq_true (by omega)
        obtain ⟨k', rfl⟩ : ∃ k', k = k' + 1 := ⟨k - 1, by omega⟩
        have hm := HPL.out.2 k' (k' + 1) (by omega) hk
        have hd : decide (pl (k' + 1) < pl k') = false := decide_eq_false (by omega)
        simp only [lastOf] at cl
        gi_wp2
        refine ⟨(from_set W _ (by omega)).trans (from_set _ _ (by omega)), (kept_set W _ (fun o h => h.2.2 rfl)).trans (kept_set _ _ (fun o h => h.2.1 rfl)), ?_, HW.out.1.set_other (by omega), keeps_set1 (keeps_set2 HJ.out.2.2 _) _⟩
        rw [show ((k' + 1 + 1 : Nat) : Int) = (k' : Int) + 1 + 1 from by omega]
        exact HW.out.2.set _
    case done =>
      rintro D W hD ⟨h1, h2, h3⟩ hdef
      obtain ⟨_, _, hb05, hbag5, hE5, hs02, hins, hin, hlt1, hlt2⟩ := H5.out
      have hbW : Below w.heap.size w W := keeps_to_below h3 hb05 (by omega) (by omega) (by omega)
      have hbl := hbag5.lt
      have hbagW : BagSI W b sv R := hbag5.same (h3.block b hbl.1 (by omega) (by omega)) (fun g e => h3.block g (hbl.2 g e) (by have := hlt2 g e; omega) (by have := hlt2 g e; omega))
      have hEW : Box W w.heap.size (.bool false) 4 := (h3.block _ hE5.lt (by omega) (by omega)).trans hE5
      have hinW : InList cI W q ys := HY.out.same hbW (Nat.le_refl _)
      have KC := Lib.hid fun (V : World) (hV : Below W.heap.size W V) (x : Int) => count_I b 0 R x V (hbagW.below hV).bag (by omega)
      have HC := Lib.hid hins.countP
      have HW := Lib.hid (And.intro hbW (And.intro hdef (And.intro hEW (And.intro h1 (And.intro hinW (show w.heap.size ≤ D from by omega))))))
      clear hb05 hbag5 hE5 hins hin hlt1 hlt2 hbl hbW hbagW hEW hinW h1 h2 h3 hdef hseq EG
      have hmx : Try.prog.follows .mixedOrders = true := by kernel_rfl
      gi_wp2
      gi_loopw [8] (fun v wr => ∃ i : Nat, v = .int .i64 i ∧ i ≤ ys.length ∧ Hid (Below W.heap.size W wr)) (fun v _ => ys.length - (intOf v).toNat)
      case atStart => exact ⟨0, rfl, Nat.zero_le _, Below.refl _ _⟩
      case round =>
        obtain ⟨i, rfl, hi, HR⟩ := hrel
        by_cases hlt : i < ys.length
        · have hiz : (i : Int) < (ys.length : Int) := by omega
          obtain ⟨gl, off, rfl, hcells⟩ := HW.out.2.2.2.2.1.ints (by omega)
          have HCL := Lib.hid hcells
          have ci := Lib.hid (hcells i hlt)
          clear hcells
          obtain ⟨yi, hyi⟩ : ∃ yi, ys[i] = yi := ⟨_, rfl⟩
          rw [hyi] at ci
          clear hyi
          gi_wp2
          gi_loopw [9, 10] (fun v9 v10 wr' => ∃ j : Nat, v10 = .int .i64 j ∧ v9 = .int .i64 ((ys.take j).countP (fun y => y == yi) : Nat) ∧ j ≤ ys.length ∧ Hid (Below W.heap.size W wr')) (fun _ v _ => ys.length - (intOf v).toNat)
          case atStart => exact ⟨0, rfl, rfl, Nat.zero_le _, HR⟩
          case round =>
            obtain ⟨j, rfl, rfl, hj, HR2⟩ := hrel
            by_cases hlt2 : j < ys.length
            · have hjz : (j : Int) < (ys.length : Int) := by omega
              have cj := kc' HR2.out (HCL.out j hlt2)
              have ci2 := kc' HR2.out ci.out
              have HT := Lib.hid (show (ys.take (j + 1)).countP (fun y => y == yi) = (ys.take j).countP (fun y => y == yi) + if ys[j] = yi then 1 else 0 from by
                rw [List.take_add_one, List.getElem?_eq_getElem hlt2, List.countP_append]
                simp [List.countP_cons])
              have hle := List.countP_le_length (p := fun y => y == yi) (l := ys.take j)
              rw [List.length_take] at hle
              have hle2 : (ys.take j).countP (fun y => y == yi) ≤ 200 := by omega
              generalize (ys.take j).countP (fun y => y == yi) = c at *
              obtain ⟨yj, hyj⟩ : ∃ yj, ys[j] = yj := ⟨_, rfl⟩
              rw [hyj] at cj HT
              clear hyj hle
              gi_wp2_with fail
              by_cases heq : yj = yi
              · have hd2 : (yj == yi) = true := beq_iff_eq.2 heq
                have HT2 := Lib.hid (HT.out.trans (by rw [if_pos heq]))
                clear heq
                have hwc : IntKind.i64.wrap ((c : Int) + 1) = (c : Int) + 1 := by rw [IntKind.wrap_i64] <;> omega
                gi_quiet (fail)
                gi_wp2
                go_roundw
                case rel => exact ⟨j + 1, by go_num, by rw [HT2.out]; go_num, by omega, below_dN HR2.out _⟩
                case measure => simp [intOf]; omega
              · have hd2 : (yj == yi) = false := beq_eq_false_iff_ne.2 heq
                have HT2 := Lib.hid (HT.out.trans (by rw [if_neg heq]))
                clear heq
                gi_quiet (fail)
                gi_wp2
                go_roundw
                case rel => exact ⟨j + 1, by go_num, by rw [HT2.out]; rfl, by omega, below_dN HR2.out _⟩
                case measure => simp [intOf]; omega
            · obtain rfl : j = ys.length := by omega
              have KCW := KC.out _ HR2.out yi
              rw [HC.out] at KCW
              have KCH := Lib.hid KCW
              have ci2 := kc' HR2.out ci.out
              rw [List.take_length]
              clear KCW
              gi_wp2_with fail
              refine ⟨trivial, rfl, ?_⟩
              refine callsIn_wide.2 (KCH.out.mono ?_)
              rintro e w8 ⟨rfl, hb8⟩
              have HB8 := Lib.hid (bT2 HR2.out hb8)
              clear hb8 ci2
              gi_wp2
              exact ⟨⟨i + 1, by go_num, by omega, HB8⟩, by simp [intOf]; omega⟩
        · obtain rfl : i = ys.length := by omega
          obtain ⟨hbW, hdef, hEW, hn, _, hD2⟩ := HW.out
          have cn := (hn.below HR.out).cell
          have hE9 := hEW.below HR.out
          have cE := hE9.cell
          have fE := hE9.frozen
          have HX := Lib.hid (And.intro (hE9.set (.bool true)) (And.intro (show Below w.heap.size w (wr.setCell ⟨w.heap.size, 0, none⟩ (.bool true)) from below_set (bT' hbW HR.out hbW.size) (Nat.le_refl _) _) (show (wr.setCell ⟨w.heap.size, 0, none⟩ (.bool true)).heap[D]? = some (.deferred (some [])) from (heap_setCell_other _ ⟨w.heap.size, 0, none⟩ D _ (by
            show D ≠ w.heap.size
            rintro rfl
            have := hEW.symm.trans hdef
            simp at this)).trans ((HR.out.block D (Array.getElem?_eq_some_iff.1 hdef).1).trans hdef))))
          clear hbW hdef hEW hn hE9
          gi_wp2
          refine ⟨by simp, .inl ⟨_, _, rfl, run_takeDeferred HX.out.2.2, ?_⟩⟩
          have hne : D ≠ w.heap.size := by
            rintro rfl
            have := HX.out.1.symm.trans HX.out.2.2
            simp at this
          have h : Box ((wr.setCell ⟨w.heap.size, 0, none⟩ (.bool true)).putObj D (.deferred none)) w.heap.size (.bool true) 4 := (World.putObj_heap_other hne.symm).trans HX.out.1
          have h := h.cell
          have hbe := HX.out.2.1
          refine ⟨.bool true, ?_, rfl, hbe.os, hbe.tape, hbe.output, by simpa using hbe.size, fun j hj => (World.putObj_heap_other (by omega)).trans (hbe.block j hj)⟩
          simp [results, Try.results4, go_sem, h]
  · have hd : decide ((ys.length : Int) > 200) = true := decide_eq_true (by omega)
    gi_wp2_with fail
    refine ⟨trivial, rfl, ?_⟩
    refine callsIn_wide.2 ((KA.out _).mono ?_)
    rintro e w2 ⟨rfl, hb2⟩
    have hbx2 := H1.out.1.below hb2
    have c2 := hbx2.cell
    have f2 := hbx2.frozen
    have H2 := Lib.hid (And.intro (hbx2.set (.bool true)) (below_set (bT' H1.out.2 hb2 H1.out.2.size) (Nat.le_refl _) (.bool true)))
    clear hb2 hbx2
    gi_wp2
    refine ⟨.bool true, ?_, rfl, H2.out.2⟩
    have h := H2.out.1.cell
    simp [results, Try.results4, go_sem, h]
end Go.Proofs.Ytfjipkkhjjpaiaa
