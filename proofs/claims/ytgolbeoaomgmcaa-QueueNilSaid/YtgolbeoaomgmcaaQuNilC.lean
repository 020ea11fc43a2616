/-
  The law QueueNil over this seat's translation: a nil queue has no items, and takes none. Conditions: those that each theorem states.
-/
import Derived.Test.YtgolbeoaomgmcaaQuBox
namespace Go.Proofs.Ytgolbeoaomgmcaa
open Go.RowKit Go.Shelf Go.Lib Go.Sort Qu
attribute [local go_sem] Oper.semAt_some

set_option maxRecDepth 1000000 in
set_option maxHeartbeats 16000000 in
theorem nil_c (x : Int) (w : World) : Calls Try.prog 5 #[.int .i64 x] w fun e w' => e = .returned (.bool true) ∧ Below w.heap.size w w' := by
  have EG : ∀ args w, (callFunc 23 args).run Try.prog w = .ok (.enter 23 args) w := enters_of Try.func23 (by kernel_rfl) rfl
  have KA := Lib.hid fun (W : World) => awake_c W
  have KO := Lib.hid fun (W : World) => popNil_c W
  have KE := Lib.hid fun (W : World) => peekNil_c W
  have KF := Lib.hid fun (W : World) => allf_c none W
  have KS := Lib.hid fun (W : World) => pushNil_c x W
  have KL := Lib.hid fun (W : World) => lenNil_c W
  have KC := Lib.hid fun (W : World) => copyNil_c W
  refine (callsIn_wide (n := 0)).1 ?_
  refine callsIn_of_wp_marks Try.func5 rfl trivial ?_ rfl
  simp only [Try.ntmps5, List.size_toArray, List.length_cons, List.length_nil, Nat.reduceAdd, Nat.reduceSub, Array.replicate_succ, Array.replicate_zero, List.push_toArray, List.append_toArray, List.nil_append, List.cons_append]
  refine wpIn_wide.2 ?_
  go_wp2_with fail
  refine (KA.out _).mono ?_
  rintro e w1 ⟨rfl, hb1⟩
  have HB1 := Lib.hid hb1
  clear hb1
  go_wp2_with fail
  refine (KO.out _).mono ?_
  rintro e w2 ⟨rfl, rfl⟩
  go_wp2_with fail
  refine (KE.out _).mono ?_
  rintro e w3 ⟨rfl, rfl⟩
  go_wp2_with fail
  refine (KF.out _).mono ?_
  rintro e W0 ⟨rfl, hw⟩
  have hb0 : Below w.heap.size w W0 := by rw [hw]; exact (HB1.out.alloc HB1.out.size _).alloc (by have := HB1.out.size; rw [World.size_alloc]; omega) _
  have hn0 : Box W0 w1.heap.size (.int .i64 0) 3 := by rw [hw]; exact (Box.new w1 _ _).below (bA' (Below.refl _ _) (Nat.le_refl _) _)
  have hbv : W0.heap[w1.heap.size + 1]? = some (.cells #[.pointer none] 24 (0, 0)) := by
    have := World.alloc_heap_new (w1.alloc (.cells #[.int .i64 0] 3)) (.cells #[.pointer none] 24)
    rw [World.size_alloc] at this
    rw [hw]
    exact this
  have hs0 : W0.heap.size = w1.heap.size + 2 := by rw [hw]; simp
  have H0 := Lib.hid (And.intro hb0 (And.intro hn0 hs0))
  have hseq := allNil_seq (w1.heap.size + 1) (fun _ o => o.isCells = true) (fun _ => #[.int .i64 0, .int .i64 0]) W0 hbv
  clear hb0 hn0 hbv hs0 hw
  go_wp2_with fail
  refine (wpIn_wide (n := 0)).1 ?_
  refine range_law (gf := 23) (pre := #[]) (lb := #[.pointer (some ⟨w1.heap.size + 1, 0, none⟩)]) rfl EG (fun bb o h => h) hseq (fun _ => rfl)
    (fun _ W => Below W0.heap.size W0 W) (fun _ _ _ => False) ?hI ?hIx (Below.refl _ _) (fun k a' _ => False) ?hAx ?assign ?body ?done ?stop
  case hI => exact own_below_at
  case hIx => rintro c s A C row h; exact h.elim
  case hAx => rintro k a' s A C row h hgr hr; exact h
  case assign => rintro l k W K hj hk hsz hK; omega
  case body => rintro l k a' W h hsz hax hk; omega
  case stop => exact fun D c k W _ _ h _ => h.elim
  case done =>
    rintro D W hD h1 hdef
    obtain ⟨hb0, hn0, hs0⟩ := H0.out
    have H1 := Lib.hid (And.intro (bT' hb0 h1 hb0.size) (And.intro (hn0.below h1) (And.intro hdef (show w.heap.size ≤ D from by have := hb0.size; omega))))
    clear hb0 hn0 hs0 h1 hdef hD hseq
    go_wp2_with fail
    refine (KA.out _).mono ?_
    rintro e w2 ⟨rfl, hb2⟩
    obtain ⟨h1, h2, h3, h4⟩ := H1.out
    have c0 := (h2.below hb2).cell
    have H2 := Lib.hid (And.intro (bT' h1 hb2 h1.size) (And.intro ((hb2.block _ (Array.getElem?_eq_some_iff.1 h3).1).trans h3) h4))
    clear h1 h2 h3 h4 hb2 H1
    go_wp2_with (first
      | (go_at_call 9; refine (KS.out _).mono ?_; rintro e w3 ⟨rfl, rfl⟩)
      | (go_at_call 10; refine (KL.out _).mono ?_; rintro e w3 ⟨rfl, rfl⟩)
      | (go_at_call 15; refine (KC.out _).mono ?_; rintro e w3 ⟨rfl, rfl⟩))
    obtain ⟨hb, hdef, hD⟩ := H2.out
    refine ⟨by simp, .inl ⟨_, _, rfl, run_takeDeferred hdef, ?_⟩⟩
    exact ⟨_, results_tmp rfl _ _ _, rfl, hb.os, hb.tape, hb.output, by have := hb.size; simpa using this, fun j hj => (World.putObj_heap_other (by omega)).trans (hb.block j hj)⟩
end Go.Proofs.Ytgolbeoaomgmcaa
