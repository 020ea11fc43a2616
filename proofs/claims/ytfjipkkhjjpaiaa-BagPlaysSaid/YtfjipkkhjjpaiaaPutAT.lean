/-
  Clone and the stable sort at items, as Put needs them, over this seat's translation. Conditions: those that each theorem states.
-/
import Derived.Test.YtfjipkkhjjpaiaaWeaveT
import Derived.Test.YtfjipkkhjjpaiaaBagNilT
import Derived.Test.YtfjipkkhjjpaiaaPutAI
namespace Go.Proofs.Ytfjipkkhjjpaiaa
open Go.RowKit Go.Shelf Go.Lib Go.Sort St

theorem appendEmpty_T (w : World) (d a : Addr) (cap c : Nat) : (Builtin.append_ #[43, 43] 43 #[.slice (some d) 0 cap, .slice (some a) 0 c]).run Try.prog w = .ok (.slice (some d) 0 cap) w := by
  obtain ⟨i0, hi0, _⟩ := info_parts infoIt
  have hl : ∀ (x : Addr), (loadCells x 0).run Try.prog w = .ok #[] w := fun x => by simpa using run_loadCells_list (P := Try.prog) w x [] (by simp)
  simp [Builtin.append_, run_underlying Try.underlying43, sizeOf, typeInfo, hi0, Builtin.lenOf, Builtin.firstCells, hl, storeCells]
set_option maxHeartbeats 1000000 in
set_option maxRecDepth 100000 in
theorem cloneEmpty_T (a : Addr) (cl : Nat) (w : World) :
    Calls Try.prog 42 #[.slice (some a) 0 cl] w fun e w' => Below w.heap.size w w' ∧ ∃ pa ca, e = .returned (.slice pa 0 ca) := by
  have HB := Lib.hid (show Below w.heap.size w (w.alloc (.cells #[] 41)) from bA' (Below.refl _ _) (Nat.le_refl _) _)
  have hne : ∀ w : World, (binOp BinOp.eql 43 (.slice (some a) 0 cl) (.slice none 0 0)).run Try.prog w = .ok (.bool false) w := fun _ => by kernel_rfl
  have hrun := appendEmpty_T (w.alloc (.cells #[] 41)) ⟨w.heap.size, 0, none⟩ a 0 cl
  go_enter Try.func42, Try.ntmps42
  go_wp2
  go_ret
  exact ⟨HB.out, _, _, rfl⟩

set_option maxHeartbeats 1000000 in
theorem clone_T (pl : Option Addr) (cl : Nat) (ys : List It) (w : World) (hy : InList It.cells w pl ys) (hlen : ys.length ≤ 1000000) :
    Calls Try.prog 42 #[.slice pl ys.length cl] w fun e w' => Below w.heap.size w w' ∧ ∃ pa ca, e = .returned (.slice pa ys.length ca) ∧ (0 < ys.length → ∃ ga, pa = some ⟨ga, 0, none⟩ ∧ w.heap.size ≤ ga ∧ RowIs It.cells 2 41 ga ys.length ca w' ys) := by
  rcases hy with rfl | ⟨gl, off, rfl, hc⟩
  · cases pl with
    | none =>
      refine (AnyE.slices_Clone_nil Try.laysCloneT _ _ w).mono ?_
      rintro e w' ⟨rfl, rfl⟩
      exact ⟨Below.refl _ _, none, 0, rfl, fun h => absurd h (Nat.lt_irrefl 0)⟩
    | some a =>
      refine (cloneEmpty_T a cl w).mono ?_
      rintro e w' ⟨hb, pa, ca, rfl⟩
      exact ⟨hb, pa, ca, rfl, fun h => absurd h (Nat.lt_irrefl 0)⟩
  · obtain ⟨i0, hi0, hz0, hz1, hz2⟩ := info_parts infoIt
    refine (AnyE.slices_Clone Try.laysCloneT i0 (.agg #[.int .i64 0, .int .i64 0]) 2 16 hi0 hz0 hz1 hz2 rfl (by decide) (fun w => by first | exact Try.sizeOf41 w | exact Try.sizeOf41 _ w) gl off ys.length cl (ys.flatMap It.cells) w (flat_len cT_len ys) (by unfold maxLen; omega) (by omega) hc (fun u hu => by
      obtain ⟨x, _, hx⟩ := List.mem_flatMap.1 hu
      exact cT_one x u hx)).mono ?_
    rintro e w' ⟨v', rfl, hown, _, hb⟩
    refine ⟨hb, ?_⟩
    rcases id hown.2 with ⟨rfl, e0⟩ | ⟨g, cap, cur, rfl, hB, _⟩
    · exact ⟨none, 0, by rw [e0], fun h => by omega⟩
    · exact ⟨some ⟨g, 0, none⟩, cap, rfl, fun _ => ⟨g, rfl, hB, rfl, row_base hown⟩⟩

theorem sort_T (ga ca : Nat) (ys : List It) (w : World) (hrow : RowIs It.cells 2 41 ga ys.length ca w ys) (hlen : ys.length ≤ 1000000) :
    Calls Try.prog 43 #[.slice (some ⟨ga, 0, none⟩) ys.length ca, .func (.func 18) #[] #[]] w fun e w' => e = .returned (.tuple #[]) ∧ ∃ zs : List It, zs.length = ys.length ∧ zs.Pairwise (fun x y => (fun x : It => x.1) x ≤ (fun x : It => x.1) y) ∧ (∀ k : Int, zs.filter (fun x => (fun x : It => x.1) x == k) = ys.filter (fun x => (fun x : It => x.1) x == k)) ∧
      (∀ j u, (zs.flatMap It.cells)[j]? = some u → w'.cell? ⟨ga, j, none⟩ = some u) ∧ Touch ga none w w' := by
  obtain ⟨cur, w1, w2, w3, w4, w5⟩ := hrow.whole
  have hblk := (Array.getElem?_eq_some_iff.1 w1).1
  have eg : ∀ args w, (callFunc 18 args).run Try.prog w = .ok (.enter 18 args) w := enters_of Try.func18 (by kernel_rfl) rfl
  have hfl := flat_len cT_len ys
  have R : RowK It.cells 2 w ga 0 ys.toArray := ⟨cT_len, cT_one, fun j hj => by
    rw [size_flatK, List.size_toArray] at hj
    rw [Nat.zero_add, hrow.row.cellAt j hj, flat_bang cT_len (by decide) ys j hj, get_flatK _ _ _ j (by rw [List.size_toArray]; exact hj)]
    exact ⟨rfl, hrow.row.frozenAt j⟩, hblk⟩
  have K := sortStable_T 18 #[] eg (cf := It.cmp) (key := fun x => x.1) (fun x y => cmpI_lt x.1 y.1) ga 0 ca ys.toArray w (by simpa using hlen) (fun W m os dk hs x y => by rw [Array.append_empty]; exact level_g x y _) R
  simp only [List.size_toArray] at K
  refine K.mono ?_
  rintro e w' ⟨rfl, d', hstb, hsrt, hsw⟩
  have hsz : d'.size = ys.length := by simpa using hstb.1
  have hH := hsw.holds hblk R.hH (by simpa using hsz)
  refine ⟨rfl, d'.toList, by simpa using hsz, pair_of_srt (hsz ▸ hsrt), hstb.2, fun j u hu => ?_, ?_⟩
  · have hj : j < d'.size * 2 := by
      have := (List.getElem?_eq_some_iff.1 hu).1
      rw [flat_len cT_len, Array.length_toList] at this
      exact this
    have h1 := (hH j (by rw [size_flatK]; exact hj)).1
    rw [Nat.zero_add, get_flatK _ _ _ j hj] at h1
    rw [flat_bang cT_len (by decide) d'.toList j (by rw [Array.length_toList]; exact hj)] at hu
    rw [h1]
    exact hu
  · obtain ⟨n, os, rfl⟩ := hsw
    exact below_sort id w ga 0 n (flatK It.cells 2 d') os
end Go.Proofs.Ytfjipkkhjjpaiaa
