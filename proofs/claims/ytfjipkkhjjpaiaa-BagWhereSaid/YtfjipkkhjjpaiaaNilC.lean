/-
  The law BagNil over this seat's translation: a nil bag has nothing. Conditions: those that each theorem states.
-/
import Derived.Test.YtfjipkkhjjpaiaaAwakeB
import Derived.Test.YtfjipkkhjjpaiaaAllI
namespace Go.Proofs.Ytfjipkkhjjpaiaa
open Go.RowKit Go.Shelf Go.Lib Go.Sort St
attribute [local go_sem] Oper.semAt_some

set_option maxHeartbeats 1000000 in
theorem dropNil_I (x : Int) (w : World) : Calls Try.prog 35 #[.pointer none, .int .i64 x] w fun e w' => e = .returned (.bool false) ∧ w' = w := by
  go_enter Try.func35, Try.ntmps35
  go_wp2
  go_ret
  exact ⟨rfl, rfl⟩

set_option maxRecDepth 1000000 in
set_option maxHeartbeats 16000000 in
theorem nil_c (x : Int) (q : Option Addr) (cap : Nat) (ys : List Int) (w : World) (hy : InList cI w q ys) :
    Calls Try.prog 7 #[.int .i64 x, .slice q ys.length cap] w fun e w' => e = .returned (.bool true) ∧ Below w.heap.size w w' := by
  have KA := Lib.hid fun (W : World) => awake_c W
  have HY := Lib.hid hy
  clear hy
  refine (callsIn_wide (n := 0)).1 ?_
  refine callsIn_of_wp_marks Try.func7 rfl trivial ?_ rfl
  simp only [Try.ntmps7, List.size_toArray, List.length_cons, List.length_nil, Nat.reduceAdd, Nat.reduceSub, Array.replicate_succ, Array.replicate_zero, List.push_toArray, List.append_toArray, List.nil_append, List.cons_append]
  by_cases hlen : ys.length ≤ 200
  · have hd : decide ((ys.length : Int) > 200) = false := decide_eq_false (by omega)
    gi_wp2_with fail
    refine ⟨trivial, rfl, ?_⟩
    refine callsIn_wide.2 ((KA.out _).mono ?_)
    rintro e w1 ⟨rfl, hb1⟩
    have HB1 := Lib.hid hb1
    clear hb1
    gi_wp2_with fail
    refine ⟨trivial, rfl, ?_⟩
    refine callsIn_wide.2 ((putNil_I _ w1).mono ?_)
    rintro e w2 ⟨rfl, rfl⟩
    gi_wp2_with fail
    refine ⟨trivial, rfl, ?_⟩
    refine callsIn_wide.2 ((atNil_I x w2).mono ?_)
    rintro e w3 ⟨rfl, rfl⟩
    gi_wp2_with fail
    refine ⟨trivial, rfl, ?_⟩
    refine callsIn_wide.2 ((all_c none _).mono ?_)
    rintro e w4 ⟨rfl, hw4⟩
    subst hw4
    have hb4 : Below w.heap.size w ((w3.alloc (.cells #[.int .i64 0] 3)).alloc (.cells #[.pointer none] 25)) := (HB1.out.alloc HB1.out.size _).alloc (by have := HB1.out.size; simp; omega) _
    have hbx : ((w3.alloc (.cells #[.int .i64 0] 3)).alloc (.cells #[.pointer none] 25)).heap[w3.heap.size + 1]? = some (.cells #[.pointer none] 25 (0, 0)) := by
      have := World.alloc_heap_new (w3.alloc (.cells #[.int .i64 0] 3)) (.cells #[.pointer none] 25)
      rwa [World.size_alloc] at this
    have hbn : ((w3.alloc (.cells #[.int .i64 0] 3)).alloc (.cells #[.pointer none] 25)).heap[w3.heap.size]? = some (.cells #[.int .i64 0] 3 (0, 0)) := (Below.heap_alloc _ _ _ (by simp)).trans (World.alloc_heap_new w3 _)
    have HB4 := Lib.hid (And.intro hb4 hbn)
    clear hb4 hbn
    gi_wp2_with fail
    have EG : ∀ args w, (callFunc 38 args).run Try.prog w = .ok (.enter 38 args) w := enters_of Try.func38 (by kernel_rfl) rfl
    generalize (w3.alloc (.cells #[.int .i64 0] 3)).alloc (.cells #[.pointer none] 25) = W5 at *
    have hseq := allNil_seq (w3.heap.size + 1) (fun _ o => o.isCells = true) W5 hbx
    refine range_law (gf := 38) (lb := #[.pointer (some ⟨w3.heap.size + 1, 0, none⟩)]) rfl EG (fun bb o h => h) hseq (fun _ => rfl)
      (fun _ W => Below W5.heap.size W5 W) (fun _ _ _ => False) ?hI ?hIx (Below.refl _ _) (fun k a' _ => False) ?hAx ?assign ?body ?done ?stop
    case hI =>
      rintro k A C row h hgr hr
      exact ⟨hgr.os.trans h.os, hgr.tape.trans h.tape, hgr.output.trans h.output, Nat.le_trans h.size hgr.size, fun j hj => (hgr.block j (by have := h.size; omega) fun e => by have := (hr j e.symm).1; omega).trans (h.block j hj)⟩
    case hIx => rintro c s A C row h; exact h.elim
    case hAx => rintro k a' s A C row h hgr hr; exact h
    case assign => rintro l k W K hj hk hsz hK; omega
    case body => rintro l k a' W h hsz hax hk; omega
    case stop => exact fun D c k W _ _ h _ => h.elim
    case done =>
      rintro D W hD h1 hdef
      have hbW : Below w.heap.size w W := ⟨h1.os.trans HB4.out.1.os, h1.tape.trans HB4.out.1.tape, h1.output.trans HB4.out.1.output, Nat.le_trans HB4.out.1.size h1.size, fun k hk => (h1.block k (by have := HB4.out.1.size; omega)).trans (HB4.out.1.block k hk)⟩
      have hnW : W.cell? ⟨w3.heap.size, 0, none⟩ = some (.int .i64 0) := by
        unfold World.cell?
        rw [h1.block _ (Array.getElem?_eq_some_iff.1 HB4.out.2).1, HB4.out.2]
        rfl
      have HW := Lib.hid (And.intro hbW (And.intro hdef (And.intro hnW (show w.heap.size ≤ D from Nat.le_trans HB4.out.1.size hD))))
      have KN := Lib.hid (new_I cap q ys W (by
        rcases HY.out with h | ⟨gl, off, e, h⟩
        · exact .inl h
        · exact .inr ⟨gl, off, e, fun j u hu => by rw [← h j u hu]; exact World.cell?_of_block (hbW.block gl (World.block_lt_of_cell? _ _ (h j u hu)))⟩) (by omega))
      clear hbW hdef hnW h1 hbx hseq EG HB4
      gi_wp2_with fail
      refine ⟨trivial, rfl, ?_⟩
      refine callsIn_wide.2 ((KN.out).mono ?_)
      rintro e w' ⟨hb, b, sv, R, rfl, _, _⟩
      have HV := Lib.hid hb
      clear hb KN
      gi_wp2_with fail
      refine ⟨trivial, rfl, ?_⟩
      refine callsIn_wide.2 ((KA.out _).mono ?_)
      rintro e w' ⟨rfl, hb⟩
      have HV := Lib.hid (bT2 HV.out hb)
      clear hb
      gi_wp2_with fail
      refine ⟨trivial, rfl, ?_⟩
      refine callsIn_wide.2 ((newNil_I _ _).mono ?_)
      rintro e w' ⟨rfl, rfl⟩
      gi_wp2_with fail
      refine ⟨trivial, rfl, ?_⟩
      refine callsIn_wide.2 ((lenNil_I _).mono ?_)
      rintro e w' ⟨rfl, rfl⟩
      gi_wp2_with fail
      refine ⟨trivial, rfl, ?_⟩
      refine callsIn_wide.2 ((countNil_I x _).mono ?_)
      rintro e w' ⟨rfl, hb⟩
      have HV := Lib.hid (bT2 HV.out hb)
      clear hb
      gi_wp2_with fail
      refine ⟨trivial, rfl, ?_⟩
      refine callsIn_wide.2 ((dropNil_I x _).mono ?_)
      rintro e w' ⟨rfl, rfl⟩
      have hn := kc' HV.out HW.out.2.2.1
      gi_wp2_with fail
      refine ⟨trivial, rfl, ?_⟩
      refine callsIn_wide.2 ((mergeNilA_I _ _).mono ?_)
      rintro e w' ⟨rfl, rfl⟩
      gi_wp2_with fail
      refine ⟨trivial, rfl, ?_⟩
      refine callsIn_wide.2 ((mergeNilB_I _ _).mono ?_)
      rintro e w' ⟨rfl, rfl⟩
      gi_wp2_with fail
      refine ⟨trivial, rfl, ?_⟩
      refine callsIn_wide.2 ((sameNil_I _).mono ?_)
      rintro e w' ⟨rfl, hb⟩
      have HV := Lib.hid (bT2 HV.out hb)
      clear hb hn
      gi_wp2_with fail
      refine ⟨trivial, rfl, ?_⟩
      refine callsIn_wide.2 ((sameNilA_I _ _).mono ?_)
      rintro e w' ⟨rfl, hb⟩
      have HV := Lib.hid (bT2 HV.out hb)
      clear hb
      gi_wp2_with fail
      refine ⟨trivial, rfl, ?_⟩
      refine callsIn_wide.2 ((sameNilB_I _ _).mono ?_)
      rintro e w' ⟨rfl, hb⟩
      have HV := Lib.hid (bT2 HV.out hb)
      clear hb
      gi_wp2
      obtain ⟨hbW, hdef, _, hD2⟩ := HW.out
      have hbV := HV.out
      have hdef2 := (hbV.block D (Array.getElem?_eq_some_iff.1 hdef).1).trans hdef
      refine ⟨by simp, .inl ⟨_, _, rfl, run_takeDeferred hdef2, ?_⟩⟩
      exact ⟨_, results_tmp rfl _ _ _, rfl, hbV.os.trans hbW.os, hbV.tape.trans hbW.tape, hbV.output.trans hbW.output, by have := hbW.size; have := hbV.size; simp; omega, fun j hj => ((World.putObj_heap_other (by omega)).trans (hbV.block j (by have := hbW.size; omega))).trans (hbW.block j hj)⟩
  · have hd : decide ((ys.length : Int) > 200) = true := decide_eq_true (by omega)
    gi_wp2_with fail
    refine ⟨trivial, rfl, ?_⟩
    refine callsIn_wide.2 ((KA.out _).mono ?_)
    rintro e w1 ⟨rfl, hb1⟩
    have HB1 := Lib.hid hb1
    clear hb1
    gi_wp2
    exact ⟨_, results_tmp rfl _ _ _, rfl, HB1.out⟩
end Go.Proofs.Ytfjipkkhjjpaiaa
