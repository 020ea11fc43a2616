/-
  value.Parts and slices.Collect over this seat's translation: what comes of a value, and the list of it. Conditions: those that each theorem states.
-/
import Derived.Test.YtbgpipdbnjoeeaaDoorSeqF
namespace Go.Proofs.YtbgpipdbnjoeeaaDoor
open Go.RowKit Go.Shelf Go.ChangeShapes Go.WideShapes Go.ChangeAt Go.Deep Go.Maps
attribute [local go_sem ↓] Go.wp_at_zero Go.wp_at_succ

/-- A value's parts, if it is right. -/
def VT.comes (t : VT) : List VT := if t.okB then VT.partsM 3 t else []
theorem comes_le (t : VT) : t.comes.length ≤ 85 := by
  unfold VT.comes
  cases h : t.okB with
  | false => simp
  | true => exact partsM_le 3 t h

/-- A tree in new memory is safe where that memory is. -/
theorem new_safe {safe : World → Nat → Obj → Prop} {B : Nat} {w W : World} (hb : Below w.heap.size w W) (hs : ∀ b o, B ≤ b → b < w.heap.size → W.heap[b]? = some o → o.isCells = true → safe W b o) : ∀ (t : VT) (sl : Value), t.Fresh B w sl → VT.InS safe W t sl := by
  intro t
  induction t using VT.ind with
  | h t ih =>
    intro sl h
    obtain ⟨h1, h2, h3, h4, p, cap, hsl, hlc, hcap, hi⟩ := h.out
    refine VT.InS.mk' h1 h2 h3 h4 hsl hlc hcap fun hl => ?_
    obtain ⟨b, o, hge, hp, hi⟩ := hi hl
    obtain ⟨_, ⟨c0, _⟩, _⟩ := hi 0 hl
    obtain ⟨u, hu, hc⟩ := lt_of_cell0 c0
    have hlt := (Array.getElem?_eq_some_iff.1 hu).1
    have hu' := (hb.block b hlt).trans hu
    refine ⟨b, o, u, hp, hu', hs b u hge hlt hu' hc, fun i hil => ?_⟩
    obtain ⟨sl', ⟨c0, c1, c2, c3⟩, hk⟩ := hi i hil
    exact ⟨sl', ⟨kc hb c0, kc hb c1, kc hb c2, kc hb c3⟩, ih i hil sl' hk⟩

/-- An iterator over the parts. -/
def Iter (t : VT) (w : World) (e : Ending) (w' : World) : Prop :=
  ∃ (gf : Nat) (lb : Array Value), e = .returned (.func (.func gf) #[] lb) ∧ (∀ args w, (callFunc gf args).run Tryd.prog w = .ok (.enter gf args) w) ∧ Below w.heap.size w w' ∧
    ∀ (safe : World → Nat → Obj → Prop) (W : World), Below w'.heap.size w' W → Safe safe W.heap.size → (∀ b o, w.heap.size ≤ b → b < w'.heap.size → W.heap[b]? = some o → o.isCells = true → safe W b o) → Seq gf lb t.comes safe W

theorem vparts_any (t : VT) (hsm : t.Sm) (sl : Value) (w : World) (hin : VT.In w t sl) : Calls Tryd.prog 9 #[t.val sl] w (Iter t w) := by
  cases h : t.okB with
  | false =>
    refine (vparts_no t h sl w hin).mono ?_
    rintro e w' ⟨rfl, hb⟩
    refine ⟨_, _, rfl, enters_of Tryd.func19 (by kernel_rfl) rfl, hb, fun safe W _ _ _ => ?_⟩
    rw [VT.comes, h]
    exact parts0_seq safe W
  | true =>
    refine (vparts_yes t h hsm sl w hin).mono ?_
    rintro e w' ⟨K, p, cap, rfl, hK, hKw, hfr, hb⟩
    refine ⟨_, _, rfl, enters_of Tryd.func21 (by kernel_rfl) rfl, hb, fun safe W hbW hS hs => ?_⟩
    rw [VT.comes, h]
    have hlt := (Array.getElem?_eq_some_iff.1 hK).1
    have hK' := (hbW.block K hlt).trans hK
    exact parts2_seq 3 t h hsm safe _ K W hS hK' (hs K _ hKw hlt hK' rfl) (new_safe hbW hs t _ hfr)

set_option maxHeartbeats 1000000 in
theorem collect_c (t : VT) (gf : Nat) (lb : Array Value) (eg : ∀ args w, (callFunc gf args).run Tryd.prog w = .ok (.enter gf args) w) (B : Nat) (w1 w : World) (hb1 : Below w1.heap.size w1 w)
    (hseq : ∀ (safe : World → Nat → Obj → Prop) (W : World), Below w1.heap.size w1 W → Safe safe W.heap.size → (∀ b o, B ≤ b → b < w1.heap.size → W.heap[b]? = some o → o.isCells = true → safe W b o) → Seq gf lb t.comes safe W) :
    Calls Tryd.prog 8 #[.func (.func gf) #[] lb] w (Came t.comes w) := by
  have hA := appendSeq_c gf lb eg t.comes (by have := comes_le t; omega) w (by
    rintro W0 rfl
    have hb0 : Below w.heap.size w (w.alloc (.cells #[.slice none 0 0] 22)) := bA (Below.refl _ w) _
    have hsz := hb1.size
    refine hseq _ _ (bT hb1 hb0) ?_ ?_
    · rw [World.size_alloc]; exact safeO_safe _
    · intro b o _ hb ho hc
      refine ⟨hc, by omega, .slice none 0 0, (cell_box (World.alloc_heap_new w _)).1, fun e => (by cases e), fun g e => (by cases e)⟩)
  have HA := Lib.hid hA
  clear hA hseq eg
  go_enter Tryd.func8, Tryd.ntmps8
  go_wp2_with fail
  refine HA.out.mono ?_
  rintro e w2 ⟨ov, q, rfl, h1, h2, h3, h4⟩
  have H1 := Lib.hid (show _ ∧ _ ∧ _ ∧ _ from ⟨h1, h2, h3, h4⟩)
  clear h1 h2 h3 h4
  go_wp2
  go_ret
  exact ⟨ov, q, rfl, H1.out⟩
end Go.Proofs.YtbgpipdbnjoeeaaDoor
