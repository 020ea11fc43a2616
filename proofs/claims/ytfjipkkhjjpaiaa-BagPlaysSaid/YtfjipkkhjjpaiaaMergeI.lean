/-
  bag's Merge at ints over this seat's translation. Conditions: those that each theorem states.
-/
import Derived.Test.YtfjipkkhjjpaiaaNewI
import Derived.Deep.RegionHeld3
namespace Go.Proofs.Ytfjipkkhjjpaiaa
open Go.RowKit Go.Shelf Go.Lib Go.Sort St

theorem BagSI.slice {W : World} {b : Nat} {sv : Value} {xs : List Int} (h : BagSI W b sv xs) : ∃ p cap, sv = .slice p xs.length cap ∧ InList cI W p xs := by
  have hrow := h.row
  rcases id h.row.2 with ⟨rfl, e⟩ | ⟨g, cap, cur, rfl, _⟩
  · exact ⟨none, 0, by rw [e], .inl (List.eq_nil_of_length_eq_zero e)⟩
  · refine ⟨_, cap, rfl, .inr ⟨g, 0, rfl, fun j u hu => ?_⟩⟩
    rw [Nat.zero_add, hrow.cellAt j (by
      have h1 := (List.getElem?_eq_some_iff.1 hu).1
      rw [flat_len cI_len] at h1
      exact h1), hu]
theorem Ins.merge_I {xs ys R1 R : List Int} (h1 : Ins (fun x : Int => x) [] xs R1) (h2 : Ins (fun x : Int => x) R1 ys R) : Ins (fun x : Int => x) xs ys R :=
  ⟨by rw [h2.len, h1.len]; simp, h2.srt, fun k => by rw [h2.flt, h1.flt]; simp⟩

set_option maxHeartbeats 8000000 in
set_option maxRecDepth 100000 in
theorem merge_I (ba bb : Nat) (sva svb : Value) (xs ys : List Int) (w : World) (ha : BagSI w ba sva xs) (hb : BagSI w bb svb ys) (hlen : xs.length + ys.length ≤ 1000000) :
    Calls Try.prog 13 #[.pointer (some ⟨ba, 0, none⟩), .pointer (some ⟨bb, 0, none⟩)] w fun e w' => Below w.heap.size w w' ∧ ∃ b sv R, e = .returned (.pointer (some ⟨b, 0, none⟩)) ∧ OwnI w' w.heap.size b sv R ∧ Ins (fun x : Int => x) xs ys R := by
  obtain ⟨pa, ca, rfl, la⟩ := ha.slice
  obtain ⟨pb, cb, rfl, lb⟩ := hb.slice
  obtain ⟨a0, a1, _⟩ := cell_two ha.box
  obtain ⟨_, b1, _⟩ := cell_two hb.box
  have KN := Lib.hid fun (W : World) (hW : Below w.heap.size w W) => new_I ca pa xs W (la.below hW) (by omega)
  have HH := Lib.hid (And.intro ha (And.intro hb (And.intro hlen lb)))
  clear ha hb hlen la lb
  go_enter Try.func13, Try.ntmps13
  go_wp2_with fail
  go_region_held3 (fun w' => w'.cell? ⟨ba, 0, none⟩ = some (.func (.func 11) #[] #[]) ∧ w'.cell? ⟨ba, 1, none⟩ = some (.slice pa xs.length ca) ∧ Below w.heap.size w w')
    (first | exact ⟨a0, a1, Below.drew (Below.refl _ _)⟩ | (go_split_ands; exact ⟨kc' hbn (by assumption), kc' hbn (by assumption), bT2 (by assumption) hbn⟩) | go_keep)
    (first
      | (go_at_call 10; refine (KN.out _ (by repeat (first | with_reducible assumption | with_reducible exact Below.refl _ _ | with_reducible refine Below.drew ?_))).mono ?_; rintro e w8 ⟨hbn, b, sv, R, rfl, hown, hins⟩))
  all_goals go_split_ands
  all_goals
    have HB8 : Below w.heap.size w w8 := by assumption
    obtain ⟨ha, hb, hlen, lb⟩ := HH.out
    have KP := put_I b cb pb sv R ys w8 hown.bag (lb.below HB8) (by have := hins.len; simp only [List.length_nil] at this; omega)
    have c1 := kc' HB8 b1
    have HW := Lib.hid (And.intro HB8 (And.intro hown hins))
    clear ha hb hlen lb hown hins a0 a1 b1 HB8 hbn KN
    go_wp2_with fail
    refine KP.mono ?_
    rintro e w9 ⟨rfl, sv', R', r1, r2, r3, r4⟩
    have HR := Lib.hid (And.intro r1 (And.intro r2 (And.intro r3 r4)))
    clear r1 r2 r3 r4 KP
    go_wp2
    go_ret
    obtain ⟨r1, r2, r3, r4⟩ := HR.out
    obtain ⟨HB8, hown, hins⟩ := HW.out
    have hrow : ∀ g, sv'.ownBlock = some g → w.heap.size ≤ g := by
      intro g e
      rcases r3 with h | h
      · rw [h] at e; exact hown.row g e
      · have := h g e
        have := HB8.size
        omega
    exact ⟨HB8.trans (r4.below_of HB8.size hown.base hown.row), b, sv', R', rfl, ⟨r1, hown.base, hrow⟩, hins.merge_I r2⟩

set_option maxHeartbeats 1000000 in
theorem mergeNilA_I (v : Option Addr) (w : World) : Calls Try.prog 13 #[.pointer none, .pointer v] w fun e w' => e = .returned (.pointer none) ∧ w' = w := by
  go_enter Try.func13, Try.ntmps13
  go_wp2
  go_ret
  exact ⟨rfl, rfl⟩
set_option maxHeartbeats 1000000 in
theorem mergeNilB_I (a : Addr) (w : World) : Calls Try.prog 13 #[.pointer (some a), .pointer none] w fun e w' => e = .returned (.pointer none) ∧ w' = w := by
  go_enter Try.func13, Try.ntmps13
  go_wp2
  go_ret
  exact ⟨rfl, rfl⟩
end Go.Proofs.Ytfjipkkhjjpaiaa
