/-
  The law BagAts over this seat's translation: what stands at any place is what is gone through there. Conditions: those that each theorem states.
-/
import Derived.Test.YtfjipkkhjjpaiaaNilC
import Derived.Test.YtfjipkkhjjpaiaaRangeF
namespace Go.Proofs.Ytfjipkkhjjpaiaa
open Go.RowKit Go.Shelf Go.Lib Go.Sort St
attribute [local go_sem] Oper.semAt_some

theorem InList.same {α : Type} {c : α → List Value} {W W' : World} {p : Option Addr} {ys : List α} {B : Nat} (h : InList c W p ys) (hb : Below B W W') (hB : W.heap.size ≤ B) : InList c W' p ys := by
  rcases h with h | ⟨gl, off, e, h⟩
  · exact .inl h
  · exact .inr ⟨gl, off, e, fun j u hu => by rw [← h j u hu]; exact World.cell?_of_block (hb.block gl (by have := World.block_lt_of_cell? _ _ (h j u hu); dsimp only at this; omega))⟩
/-- A box of one cell. -/
abbrev Box (W : World) (k : Nat) (v : Value) (t : TypeId) : Prop := W.heap[k]? = some (.cells #[v] t (0, 0))
theorem Box.lt {W : World} {k : Nat} {v : Value} {t : TypeId} (h : Box W k v t) : k < W.heap.size := (Array.getElem?_eq_some_iff.1 h).1
theorem Box.cell {W : World} {k : Nat} {v : Value} {t : TypeId} (h : Box W k v t) : W.cell? ⟨k, 0, none⟩ = some v := by unfold World.cell?; rw [h]; rfl
theorem Box.frozen {W : World} {k : Nat} {v : Value} {t : TypeId} (h : Box W k v t) : W.frozen? ⟨k, 0, none⟩ = false := by simp [World.frozen?, h]
theorem Box.below {W W' : World} {k : Nat} {v : Value} {t : TypeId} (h : Box W k v t) (hb : Below W.heap.size W W') : Box W' k v t := (hb.block k h.lt).trans h
theorem Box.new (W : World) (v : Value) (t : TypeId) : Box (W.alloc (.cells #[v] t)) W.heap.size v t := World.alloc_heap_new W _
theorem Box.set {W : World} {k : Nat} {v : Value} {t : TypeId} (h : Box W k v t) (u : Value) : Box (W.setCell ⟨k, 0, none⟩ u) k u t := heap_setCell_same _ k 0 _ _ _ h
theorem below_set {B : Nat} {a w : World} {k : Nat} (h : Below B a w) (hk : B ≤ k) (u : Value) : Below B a (w.setCell ⟨k, 0, none⟩ u) :=
  ⟨h.os, h.tape, h.output, by simpa using h.size, fun j hj => (heap_setCell_other _ ⟨k, 0, none⟩ j u (by show j ≠ k; omega)).trans (h.block j hj)⟩

set_option maxRecDepth 1000000 in
set_option maxHeartbeats 16000000 in
theorem ats_c (x : Int) (q : Option Addr) (cap : Nat) (ys : List Int) (w : World) (hy : InList cI w q ys) :
    Calls Try.prog 8 #[.slice q ys.length cap, .int .i64 x] w fun e w' => e = .returned (.bool true) ∧ Below w.heap.size w w' := by
  have KA := Lib.hid fun (W : World) => awake_c W
  have HY := Lib.hid hy
  clear hy
  refine (callsIn_wide (n := 0)).1 ?_
  refine callsIn_of_wp_marks Try.func8 rfl trivial ?_ rfl
  simp only [Try.ntmps8, List.size_toArray, List.length_cons, List.length_nil, Nat.reduceAdd, Nat.reduceSub, Array.replicate_succ, Array.replicate_zero, List.push_toArray, List.append_toArray, List.nil_append, List.cons_append]
  gi_wp2_with fail
  refine ⟨trivial, rfl, ?_⟩
  refine callsIn_wide.2 ((KA.out _).mono ?_)
  rintro e w1 ⟨rfl, hb1⟩
  have hbx1 := (Box.new w (.bool false) 4).below hb1
  have hb01 : Below w.heap.size w w1 := (bA' (Below.refl _ _) (Nat.le_refl _) _).trans (by
    have := hb1
    exact ⟨this.os, this.tape, this.output, this.size, fun k hk => this.block k (by simp; omega)⟩)
  have H1 := Lib.hid (And.intro hbx1 hb01)
  clear hbx1 hb01 hb1
  by_cases hlen : ys.length ≤ 200
  · have hd : decide ((ys.length : Int) > 200) = false := decide_eq_false (by omega)
    have KN := Lib.hid (new_I cap q ys w1 (HY.out.same H1.out.2 (Nat.le_refl _)) (by omega))
    gi_wp2_with fail
    refine ⟨trivial, rfl, ?_⟩
    refine callsIn_wide.2 (KN.out.mono ?_)
    rintro e w2 ⟨hb2, b, sv, R, rfl, hown, hins⟩
    have hs1 := H1.out.2.size
    have hE1 := H1.out.1.lt
    have hs2 := hb2.size
    have hb02 := bT' H1.out.2 hb2 hs1
    have hb3 := bA' (Below.refl w2.heap.size w2) (Nat.le_refl _) (.cells #[.pointer (some ⟨b, 0, none⟩)] 25)
    have hP := Box.new w2 (.pointer (some ⟨b, 0, none⟩)) 25
    have hE3 := (H1.out.1.below hb2).below hb3
    have hbag3 := hown.bag.below hb3
    have hrl : R.length = ys.length := by have := hins.len; simpa using this
    have hblt := hown.bag.lt
    have KL := Lib.hid (len_I b 0 R _ hbag3.bag)
    have KD := Lib.hid (drop_I b sv R x _ hbag3 (by omega))
    have cP := hP.cell
    have H3 := Lib.hid (And.intro hP (And.intro hE3 (And.intro (bT' hb02 hb3 hb02.size) (And.intro hown.base (And.intro hown.row (And.intro hblt hb02.size))))))
    have hsz3 : (w2.alloc (.cells #[.pointer (some ⟨b, 0, none⟩)] 25)).heap.size = w2.heap.size + 1 := World.size_alloc _ _
    clear hb2 hown hins hb02 hb3 hE3 hbag3 KN hP
    gi_wp2_with fail
    generalize w2.alloc (.cells #[.pointer (some ⟨b, 0, none⟩)] 25) = w3 at *
    refine ⟨trivial, rfl, ?_⟩
    refine callsIn_wide.2 (KL.out.mono ?_)
    rintro e w3 ⟨rfl, rfl⟩
    gi_wp2_with fail
    refine ⟨trivial, rfl, ?_⟩
    refine callsIn_wide.2 (KD.out.mono ?_)
    rintro e w4 ⟨rfl, sv4, hbag4, hrow4, ht4⟩
    obtain ⟨an, han⟩ : ∃ an, R.any (fun y => y == x) = an := ⟨_, rfl⟩
    obtain ⟨L, hL⟩ : ∃ L, R.eraseP (fun y => y == x) = L := ⟨_, rfl⟩
    have hLl : L.length = if an = true then R.length - 1 else R.length := by rw [← hL, ← han, List.length_eraseP]
    have hRpos : an = true → 0 < R.length := fun h => by
      rw [← han] at h
      obtain ⟨y, hy, _⟩ := List.any_eq_true.1 h
      exact List.length_pos_of_mem hy
    rw [hL] at hbag4
    rw [han]
    obtain ⟨hP3, hE3, hb03, hbase, hrow, hblt, hs02⟩ := H3.out
    have hP4 : Box w4 w2.heap.size (.pointer (some ⟨b, 0, none⟩)) 25 := (ht4.block _ hP3.lt (by omega) (fun e => by have := hblt.2 _ e.symm; omega)).trans hP3
    have hE4 : Box w4 w.heap.size (.bool false) 4 := (ht4.block _ hE3.lt (by omega) (fun e => by have := hrow _ e.symm; omega)).trans hE3
    have hb04 : Below w.heap.size w w4 := hb03.trans (ht4.below_of hb03.size (by omega) (fun g e => by have := hrow g e; omega))
    have cP4 := hP4.cell
    have KL4 := Lib.hid (len_I b 0 L w4 hbag4.bag)
    rw [hrl] at hLl
    have hw1 : IntKind.i64.wrap ((ys.length : Int) - 1) = (ys.length : Int) - 1 := by rw [IntKind.wrap_i64] <;> omega
    have hz : (!an == ((L.length : Int) == (ys.length : Int) - 1)) = false := by
      rw [hLl]
      cases an with
      | true =>
        have := hRpos rfl
        rw [hrl] at this
        rw [if_pos rfl, show (((ys.length - 1 : Nat) : Int) == (ys.length : Int) - 1) = true from by rw [beq_iff_eq]; omega]
        rfl
      | false =>
        rw [if_neg (by decide), show (((ys.length : Nat) : Int) == (ys.length : Int) - 1) = false from by rw [beq_eq_false_iff_ne]; omega]
        rfl
    have hL2 : L.length ≤ 200 := by rw [hLl]; split <;> omega
    have H4 := Lib.hid (And.intro hP4 (And.intro hE4 (And.intro hb04 hbag4)))
    clear hP3 hE3 hb03 hbase hrow hblt hs02 hP4 hE4 hb04 hbag4 hrow4 ht4 han hL hLl hRpos cP H3 KL KD H1 hs1 hE1 hs2
    gi_wp2_with fail
    refine ⟨trivial, rfl, ?_⟩
    refine callsIn_wide.2 (KL4.out.mono ?_)
    rintro e w4 ⟨rfl, rfl⟩
    gi_wp2_with fail
    refine ⟨trivial, rfl, ?_⟩
    refine callsIn_wide.2 ((all_c _ _).mono ?_)
    rintro e w5 ⟨rfl, hw5⟩
    obtain ⟨hP4, hE4, hb04, hbag4⟩ := H4.out
    have hb45 : Below w4.heap.size w4 w5 := hw5 ▸ bA' (Below.refl _ _) (Nat.le_refl _) _
    have hs5 : w5.heap.size = w4.heap.size + 1 := by rw [hw5, World.size_alloc]
    have hbx : w5.heap[w4.heap.size]? = some (.cells #[.pointer (some ⟨b, 0, none⟩)] 25 (0, 0)) := hw5 ▸ World.alloc_heap_new w4 _
    have hb05 := bT' hb04 hb45 hb04.size
    have H5 := Lib.hid (And.intro (hP4.below hb45) (And.intro (hE4.below hb45) (And.intro hb05 (hbag4.below hb45))))
    obtain ⟨pl, hpl⟩ : ∃ pl : Nat → Int, ∀ k, L.getD k default = pl k := ⟨fun k => L.getD k default, fun _ => rfl⟩
    have hseq := all_seq w4.heap.size b sv4 L (fun _ o => o.isCells = true) w5 (by omega) hbx (hbag4.below hb45) (fun _ _ _ h => h)
    rw [show (fun k : Nat => (#[.int .i64 (k : Int), .int .i64 (L.getD k default)] : Array Value)) = fun k => #[.int .i64 (k : Int), .int .i64 (pl k)] from funext fun k => by rw [hpl]] at hseq
    have EG : ∀ args w, (callFunc 38 args).run Try.prog w = .ok (.enter 38 args) w := enters_of Try.func38 (by kernel_rfl) rfl
    clear hP4 hE4 hb04 hbag4 hb45 hb05 hbx hw5 H4 KL4
    gi_wp2_with fail
    apply range_lawF (gf := 38) (lb := #[.pointer (some ⟨w4.heap.size, 0, none⟩)]) rfl EG (fun bb o h => h) hseq (fun _ => rfl)
      (fun _ W => Below w5.heap.size w5 W) (fun _ _ _ => False) own_below_at ?hIx (Below.refl _ _) _ ?assign ?body ?done ?stop
    case assign =>
      rintro l k W K hj hk hsz hK
      have HJ := Lib.hid hj
      clear hj
      gi_wp2
      exact hK _ (Below.refl _ _) HJ.out
    case hIx => rintro c s A C row h; exact h.elim
    case stop => exact fun D c k W _ _ h _ => h.elim
    case body =>
      rintro l k W h hsz hk
      have hbagW := H5.out.2.2.2.below h
      have cP := (H5.out.1.below h).cell
      have KA := at_I b 0 L k hk W hbagW.bag
      rw [show L[k] = pl k from by rw [← hpl, seekd_I L k hk]] at KA
      have HJ := Lib.hid h
      have KAH := Lib.hid KA
      clear h hbagW KA
      gi_wp2_with fail
      refine ⟨trivial, rfl, ?_⟩
      refine (CallsIn.inRound l (callsIn_wide.2 KAH.out)).mono ?_
      rintro e W' ⟨rfl, rfl⟩
      gi_wp2
      exact ⟨KeepsFrom.refl _ _, Kept.below (Below.refl _ _), HJ.out⟩
    case done =>
      rintro D W hD h1 hdef
      have hb5W : Below w.heap.size w W := h1.os.trans H5.out.2.2.1.os |> fun o => ⟨o, h1.tape.trans H5.out.2.2.1.tape, h1.output.trans H5.out.2.2.1.output, Nat.le_trans H5.out.2.2.1.size h1.size, fun j hj => (h1.block j (by have := H5.out.2.2.1.size; omega)).trans (H5.out.2.2.1.block j hj)⟩
      have hbagW := H5.out.2.2.2.below h1
      have cP := (H5.out.1.below h1).cell
      have hEW := H5.out.2.1.below h1
      have KO := Lib.hid (atOut_I b 0 L (-1) (.inl (by decide)) W hbagW.bag)
      have KH := Lib.hid fun (V : World) (hV : Below W.heap.size W V) => atOut_I b 0 L (L.length : Int) (.inr (Int.le_refl _)) V (hbagW.below hV).bag
      have KL := Lib.hid fun (V : World) (hV : Below W.heap.size W V) => len_I b 0 L V (hbagW.below hV).bag
      have HW := Lib.hid (And.intro hb5W (And.intro hdef (And.intro hEW (show w.heap.size ≤ D from Nat.le_trans H5.out.2.2.1.size hD))))
      clear hb5W hbagW hEW hdef h1 hseq EG
      have hmx : Try.prog.follows .mixedOrders = true := by kernel_rfl
      gi_wp2_with fail
      refine ⟨trivial, rfl, ?_⟩
      refine callsIn_wide.2 (KO.out.mono ?_)
      rintro e W' ⟨rfl, rfl⟩
      gi_wp2_with fail
      refine wpIn_mono (Q := NoPanic _) ?_ NoPanic.imp
      (first | gi_region_with_o (first
        | (refine ⟨trivial, rfl, ?_⟩
           gi_at_call 14
           refine (callsIn_wide.2 (KL.out _ (by first | exact Below.refl _ _ | exact Below.drew (Below.refl _ _)))).mono ?_
           rintro e w8 ⟨rfl, rfl⟩)
        | (refine ⟨trivial, rfl, ?_⟩
           gi_at_call 34
           refine (callsIn_wide.2 (KH.out _ (by first | exact Below.refl _ _ | exact Below.drew (Below.refl _ _)))).mono ?_
           rintro e w8 ⟨rfl, rfl⟩)) | fail)
      all_goals refine NoPanic.normal ?_
      all_goals
        obtain ⟨hb5W, hdef, hEW, hD2⟩ := HW.out
        have hEd : Box W'.drew w.heap.size (.bool false) 4 := hEW
        have cE := hEd.cell
        have fE := hEd.frozen
        have HX := Lib.hid (And.intro (hEd.set (.bool true)) (And.intro (show Below w.heap.size w (W'.drew.setCell ⟨w.heap.size, 0, none⟩ (.bool true)) from below_set (Below.drew hb5W) (Nat.le_refl _) _) (show (W'.drew.setCell ⟨w.heap.size, 0, none⟩ (.bool true)).heap[D]? = some (.deferred (some [])) from (heap_setCell_other _ ⟨w.heap.size, 0, none⟩ D _ (by
          show D ≠ w.heap.size
          rintro rfl
          have := hEW.symm.trans hdef
          simp at this)).trans hdef)))
        clear hb5W hdef hEW hD2 hEd
        gi_wp2
        refine ⟨by simp, .inl ⟨_, _, rfl, run_takeDeferred HX.out.2.2, ?_⟩⟩
        have hne : D ≠ w.heap.size := by
          rintro rfl
          have := HX.out.1.symm.trans HX.out.2.2
          simp at this
        have h : Box (((W'.drew.setCell ⟨w.heap.size, 0, none⟩ (.bool true))).putObj D (.deferred none)) w.heap.size (.bool true) 4 := (World.putObj_heap_other hne.symm).trans HX.out.1
        have h := h.cell
        have hbe := HX.out.2.1
        refine ⟨.bool true, ?_, rfl, hbe.os, hbe.tape, hbe.output, by simpa using hbe.size, fun j hj => (World.putObj_heap_other (by have := HW.out.2.2.2; omega)).trans (hbe.block j hj)⟩
        have h2 : ((W'.setCell ⟨w.heap.size, 0, none⟩ (.bool true)).drew.putObj D (.deferred none)).cell? ⟨w.heap.size, 0, none⟩ = some (.bool true) := h
        simp [results, Try.results8, go_sem, h2]
  · have hd : decide ((ys.length : Int) > 200) = true := decide_eq_true (by omega)
    gi_wp2_with fail
    refine ⟨trivial, rfl, ?_⟩
    refine callsIn_wide.2 ((KA.out _).mono ?_)
    rintro e w2 ⟨rfl, hb2⟩
    have hbx2 := H1.out.1.below hb2
    have c2 := hbx2.cell
    have f2 := hbx2.frozen
    have H2 := Lib.hid (And.intro (hbx2.set (.bool true)) (below_set (bT' H1.out.2 hb2 H1.out.2.size) (Nat.le_refl _) (.bool true)))
    clear hb2 hbx2
    gi_wp2
    refine ⟨.bool true, ?_, rfl, H2.out.2⟩
    have h := H2.out.1.cell
    simp [results, Try.results8, go_sem, h]
end Go.Proofs.Ytfjipkkhjjpaiaa
