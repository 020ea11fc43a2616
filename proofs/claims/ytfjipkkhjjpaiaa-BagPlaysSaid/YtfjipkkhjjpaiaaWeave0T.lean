/-
  bag's weave of nothing at items over this seat's translation. Conditions: those that each theorem states.
-/
import Derived.Test.YtfjipkkhjjpaiaaPutAT
namespace Go.Proofs.Ytfjipkkhjjpaiaa
open Go.RowKit Go.Shelf Go.Lib Go.Sort St
attribute [local go_sem] Oper.semAt_some

set_option maxRecDepth 100000 in
set_option maxHeartbeats 8000000 in
theorem weave0_T (b ca cp : Nat) (pa pp : Option Addr) (sv : Value) (xs : List It) (w : World) (hbox : w.heap[b]? = some (.cells #[.func (.func 18) #[] #[], sv] 76 (0, 0))) (hrow : w.ownsRow 0 41 2 sv xs.length (xs.flatMap It.cells)) :
    Calls Try.prog 45 #[.pointer (some ⟨b, 0, none⟩), .slice pa 0 ca, .slice pp 0 cp] w fun e w' => e = .returned (.tuple #[]) ∧ Below w.heap.size w w' := by
  obtain ⟨p0, c0, rfl⟩ : ∃ p c, sv = .slice p xs.length c := by
    rcases id hrow.2 with ⟨rfl, e⟩ | ⟨g, cap, cur, rfl, _⟩
    · exact ⟨none, 0, by rw [e]⟩
    · exact ⟨_, _, rfl⟩
  obtain ⟨i0, hi0, _, _, _⟩ := info_parts infoIt
  have hbl2 : Below w.heap.size w (((w.alloc (.cells #[.pointer (some ⟨b, 0, none⟩)] 38)).alloc (.cells #[.slice pa 0 ca] 43)).alloc (.cells #[.int .i64 xs.length] 3)) := bA' (bA' (bA' (Below.refl _ _) (Nat.le_refl _) _) (by simp) _) (by rw [World.size_alloc, World.size_alloc]; omega) _
  have hbl2d : Below w.heap.size w ((((w.alloc (.cells #[.pointer (some ⟨b, 0, none⟩)] 38)).alloc (.cells #[.slice pa 0 ca] 43)).alloc (.cells #[.int .i64 xs.length] 3))).drew := ⟨hbl2.os, hbl2.tape, hbl2.output, hbl2.size, hbl2.block⟩
  have hrow2 : (((w.alloc (.cells #[.pointer (some ⟨b, 0, none⟩)] 38)).alloc (.cells #[.slice pa 0 ca] 43)).alloc (.cells #[.int .i64 xs.length] 3)).drew.ownsRow 0 41 2 (.slice p0 xs.length c0) xs.length (xs.flatMap It.cells) := row_below hrow hbl2d
  have hrun := run_append_zero (P := Try.prog) ((((w.alloc (.cells #[.pointer (some ⟨b, 0, none⟩)] 38)).alloc (.cells #[.slice pa 0 ca] 43)).alloc (.cells #[.int .i64 xs.length] 3))).drew 43 43 41 i0 2 0 Try.underlying43 hi0 _ xs.length _ hrow2 pa ca
  have hblt : b < w.heap.size := (Array.getElem?_eq_some_iff.1 hbox).1
  obtain ⟨b0, b1, bf⟩ := cell_two hbox
  have hb3 : Below w.heap.size w ((w.alloc (.cells #[.pointer (some ⟨b, 0, none⟩)] 38)).alloc (.cells #[.slice pa 0 ca] 43)) := bA' (bA' (Below.refl _ _) (Nat.le_refl _) _) (by simp) _
  have a0 := kc' hb3 b0
  have a1 := kc' hb3 b1
  have bx2 : ((((w.alloc (.cells #[.pointer (some ⟨b, 0, none⟩)] 38)).alloc (.cells #[.slice pa 0 ca] 43)).alloc (.cells #[.int .i64 xs.length] 3))).drew.heap[b]? = some (.cells #[.func (.func 18) #[] #[], .slice p0 xs.length c0] 76 (0, 0)) := (hbl2d.block b hblt).trans hbox
  obtain ⟨a2, a3, a3f⟩ := cell_two bx2
  have t0 : ((((w.alloc (.cells #[.pointer (some ⟨b, 0, none⟩)] 38)).alloc (.cells #[.slice pa 0 ca] 43)).alloc (.cells #[.int .i64 xs.length] 3))).drew.cell? ⟨w.heap.size, 0, none⟩ = some (.pointer (some ⟨b, 0, none⟩)) := by go_simp
  have t1 : ((((w.alloc (.cells #[.pointer (some ⟨b, 0, none⟩)] 38)).alloc (.cells #[.slice pa 0 ca] 43)).alloc (.cells #[.int .i64 xs.length] 3))).drew.cell? ⟨w.heap.size + 1, 0, none⟩ = some (.slice pa 0 ca) := by go_simp
  obtain ⟨w4, hw4⟩ : ∃ w4, ((((w.alloc (.cells #[.pointer (some ⟨b, 0, none⟩)] 38)).alloc (.cells #[.slice pa 0 ca] 43)).alloc (.cells #[.int .i64 xs.length] 3))).setCell ⟨b, 1, none⟩ (.slice p0 xs.length c0) = w4 := ⟨_, rfl⟩
  have hb4 : Below w.heap.size w w4.drew := by
    rw [← hw4]
    refine ⟨hbl2.os, hbl2.tape, hbl2.output, by simpa using hbl2.size, fun k hk => ?_⟩
    by_cases hkb : k = b
    · subst hkb
      rw [hbox]
      exact heap_setCell_same _ k 1 _ _ _ ((hbl2.block k hblt).trans hbox)
    · exact (heap_setCell_other _ ⟨b, 1, none⟩ k _ hkb).trans (hbl2.block k hk)
  have HW4 := Lib.hid hw4
  have HB4 := Lib.hid hb4
  clear hw4 hb4 hbox hrow hbl2 hbl2d hrow2 hblt b0 b1 bf hb3 bx2 hi0
  refine (callsIn_wide (n := 0)).1 ?_
  refine callsIn_of_wp_marks Try.func45 rfl trivial ?_ rfl
  simp only [Try.ntmps45, List.size_toArray, List.length_cons, List.length_nil, Nat.reduceAdd, Nat.reduceSub, Array.replicate_succ, Array.replicate_zero, List.push_toArray, List.append_toArray, List.nil_append, List.cons_append]
  have hmx : Try.prog.follows .mixedOrders = true := by kernel_rfl
  gi_wp2_with fail
  refine region_quiet (fun _ => trivial) [.pointer (some ⟨b, 0, none⟩), .pointer (some ⟨b, 0, none⟩), .pointer (some ⟨b, 0, none⟩), .pointer (some ⟨b, 1, none⟩), .slice p0 xs.length c0, .slice pa 0 ca, .slice p0 xs.length c0, .pointer (some ⟨b, 0, none⟩), .pointer (some ⟨b, 1, none⟩)] { tmps := #[.pointer (some ⟨b, 0, none⟩), .slice pa 0 ca, .slice pp 0 cp, .pointer (some ⟨w.heap.size, 0, none⟩), .pointer (some ⟨w.heap.size + 1, 0, none⟩), undef, .pointer (some ⟨w.heap.size + 1 + 1, 0, none⟩), undef, undef, .pointer (some ⟨b, 0, none⟩), .pointer (some ⟨b, 0, none⟩), .pointer (some ⟨b, 1, none⟩), .slice p0 xs.length c0, .int .i64 xs.length, .pointer (some ⟨b, 0, none⟩), .pointer (some ⟨b, 0, none⟩), .pointer (some ⟨b, 0, none⟩), .pointer (some ⟨b, 1, none⟩), .slice p0 xs.length c0, .slice pa 0 ca, .slice p0 xs.length c0, .pointer (some ⟨b, 0, none⟩), .pointer (some ⟨b, 1, none⟩), undef, undef, undef, undef, undef, undef, undef, undef, undef, undef, undef, undef, undef, undef, undef, undef, undef, undef, undef, undef, undef, undef, undef, undef, undef, undef, undef, undef, undef, undef, undef, undef, undef, undef], defers := [] } hmx (by kernel_rfl) (by kernel_rfl) rfl (by kernel_rfl) ?rd ?last
  case rd =>
    iterate 9 (refine ⟨?_, ?_⟩; rotate_left)
    exact trivial
    all_goals (first | exact exec_append (.tmp 18) (.tmp 19) 43 rfl rfl rfl hrun | (go_simp; first | done | with_reducible rfl | skip))
  case last =>
    change Oper.wpIn _ _ _ (Oper.mk _ _ _ _ _ _) _ _ _ _
    clear hrun
    go_simp
    try rw [HW4.out]
    clear a0 a1 a2 a3 a3f t0 t1
    gi_wp2_with fail
    refine ⟨trivial, rfl, ?_⟩
    refine callsIn_wide.2 ((backward_c pp 0 cp _).mono ?_)
    rintro e w5 ⟨rfl, hw5⟩
    subst hw5
    gi_wp2_with fail
    obtain ⟨W5, hW5⟩ : ∃ W5, (w4.drew).alloc (.cells #[.slice pp 0 cp] 22) = W5 := ⟨_, rfl⟩
    have s5 : W5.heap.size = w4.heap.size + 1 := by rw [← hW5, World.size_alloc]; rfl
    have bw5 : W5.heap[w4.heap.size]? = some (.cells #[.slice pp 0 cp] 22 (0, 0)) := by rw [← hW5]; exact World.alloc_heap_new w4.drew _
    have hb5 : Below w.heap.size w W5 := hW5 ▸ HB4.out.alloc HB4.out.size _
    have EG : ∀ args w, (callFunc 64 args).run Try.prog w = .ok (.enter 64 args) w := enters_of Try.func64 (by kernel_rfl) rfl
    have hseq := backward1_seq w4.heap.size 0 cp pp (fun i => 0) (fun _ o => o.isCells = true) W5 (by omega) bw5 rfl (fun i hi => by omega)
    change Code.wpIn _ _ _ _ _ _ ((w4.drew).alloc _)
    rw [hW5]
    refine range_law (gf := 64) (lb := #[.pointer (some ⟨w4.heap.size, 0, none⟩)]) rfl EG (fun bb o h => h) hseq (fun _ => rfl)
      (fun _ W => Below W5.heap.size W5 W) (fun _ _ _ => False) ?hI ?hIx (Below.refl _ _) (fun k a' _ => False) ?hAx ?assign ?body ?done ?stop
    case hI =>
      rintro k A C row h hgr hr
      exact ⟨hgr.os.trans h.os, hgr.tape.trans h.tape, hgr.output.trans h.output, Nat.le_trans h.size hgr.size, fun j hj => (hgr.block j (by have := h.size; omega) fun e => by have := (hr j e.symm).1; omega).trans (h.block j hj)⟩
    case hIx => rintro c s A C row h; exact h.elim
    case hAx => rintro k a' s A C row h hgr hr; exact h
    case assign => rintro l k W K hj hk hsz hK; omega
    case body => rintro l k a' W h hsz hax hk; omega
    case stop => exact fun D c k W _ _ h _ => h.elim
    case done =>
      rintro D W hD h1 hdef
      have H2 := Lib.hid (run_takeDeferred (P := Try.prog) hdef)
      have HEND := Lib.hid (show Below w.heap.size w (W.putObj D (.deferred none)) from ⟨h1.os.trans hb5.os, h1.tape.trans hb5.tape, h1.output.trans hb5.output, by have := hb5.size; have := h1.size; simp; omega, fun j hj => by
        have := hb5.size
        exact ((World.putObj_heap_other (by omega)).trans (h1.block j (by omega))).trans (hb5.block j hj)⟩)
      clear hdef h1 hb5 bw5 s5 hseq EG hW5
      gi_wp2
      refine ⟨by simp, .inl ⟨_, _, rfl, H2.out, ?_⟩⟩
      exact ⟨_, results_none rfl _ _ _, rfl, HEND.out⟩
end Go.Proofs.Ytfjipkkhjjpaiaa
