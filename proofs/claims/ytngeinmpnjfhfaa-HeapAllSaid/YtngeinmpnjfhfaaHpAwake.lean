/-
  Heaps of one's own, and gavottelaw04's awake, done, firstKey over this seat's translation. Conditions: those that each theorem states.
-/
import Derived.Test.YtngeinmpnjfhfaaHpSet
import Derived.Test.YtngeinmpnjfhfaaHpMore
namespace Go.Proofs.Ytngeinmpnjfhfaa
open Go.RowKit Go.Shelf Go.Lib Go.Sort Hp Go.Maps

/-- A heap whose blocks are blocks from B on. -/
structure Own (B : Nat) (W : World) (hb : Nat) (sv : Value) (mb : Nat) (es : List It) : Prop where
  heap : HeapS W hb sv mb es
  b1 : B ≤ hb
  b2 : B ≤ mb
  b3 : ∀ g, sv.ownBlock = some g → B ≤ g
theorem Own.below {B : Nat} {W W' : World} {hb : Nat} {sv : Value} {mb : Nat} {es : List It} (h : Own B W hb sv mb es) (hB : Below W.heap.size W W') : Own B W' hb sv mb es := ⟨h.heap.below hB, h.b1, h.b2, h.b3⟩
/-- What a call on it leaves. -/
structure Left (B hb mb : Nat) (sv : Value) (W W' : World) : Prop where
  touch : TouchH hb mb sv.ownBlock W W'
  below : Below B W W'
theorem Left.of_below {B hb mb : Nat} {sv : Value} {W W' : World} (h : Below W.heap.size W W') (hB : B ≤ W.heap.size) : Left B hb mb sv W W' := ⟨.below h, ⟨h.os, h.tape, h.output, h.size, fun k hk => h.block k (by omega)⟩⟩
theorem new_o (w : World) : Calls Try.prog 9 #[.func (.func 10) #[] #[]] w fun e w' => Below w.heap.size w w' ∧ ∃ hb mb sv, e = .returned (.pointer (some ⟨hb, 0, none⟩)) ∧ Own w.heap.size w' hb sv mb [] :=
  (new_c w).mono fun _ _ ⟨h1, hb, mb, h2, h3, h4, h5⟩ => ⟨h1, hb, mb, _, h2, h3, h4, h5, fun g e => by cases e⟩
theorem set_o {B hb mb : Nat} {k by0 : Int} {sv : Value} {es : List It} {w : World} (h : Own B w hb sv mb es) (hB : B ≤ w.heap.size) (hk : W64 k) (hlen : es.length + 1 ≤ 1000000) :
    Calls Try.prog 17 #[.pointer (some ⟨hb, 0, none⟩), .int .i64 k, .int .i64 by0] w fun e w' => e = .returned (.tuple #[]) ∧ ∃ sv' es', Own B w' hb sv' mb es' ∧ es'.Perm ((k, by0) :: sans es k) ∧ (sv'.ownBlock = sv.ownBlock ∨ ∀ g, sv'.ownBlock = some g → w.heap.size ≤ g) ∧ Left B hb mb sv w w' :=
  (set_c hb mb k by0 sv es w h.heap hk hlen).mono fun _ _ ⟨h1, sv', es', h2, h3, h4, h5⟩ => ⟨h1, sv', es', ⟨h2, h.b1, h.b2, fun g e => by
    rcases h4 with h4 | h4
    · exact h.b3 g (by rw [← h4]; exact e)
    · exact Nat.le_trans hB (h4 g e)⟩, h3, h4, h5, h5.below_of hB h.b1 h.b2 h.b3⟩
theorem del_o {B hb mb : Nat} {k : Int} {sv : Value} {es : List It} {w : World} (h : Own B w hb sv mb es) (hB : B ≤ w.heap.size) (hk : W64 k) (hlen : es.length ≤ 1000000) :
    Calls Try.prog 20 #[.pointer (some ⟨hb, 0, none⟩), .int .i64 k] w fun e w' => e = .returned (.bool (getE es k).2) ∧ ∃ sv' es', Own B w' hb sv' mb es' ∧ es'.Perm (sans es k) ∧ (sv'.ownBlock = sv.ownBlock ∨ ∀ g, sv'.ownBlock = some g → w.heap.size ≤ g) ∧ Left B hb mb sv w w' :=
  (del_c hb mb k sv es w h.heap hk hlen).mono fun _ _ ⟨h1, sv', es', h2, h3, h4, h5⟩ => ⟨h1, sv', es', ⟨h2, h.b1, h.b2, fun g e => h.b3 g (by rw [← h4]; exact e)⟩, h3, .inl h4, h5, h5.below_of hB h.b1 h.b2 h.b3⟩
/-- The least taken out. -/
def Tail (es es' : List It) : Prop := if 0 < es.length then es.Perm (Hp.g es 0 :: es') else es' = es
theorem pop_o {B hb mb : Nat} {sv : Value} {es : List It} {w : World} (h : Own B w hb sv mb es) (hB : B ≤ w.heap.size) (hlen : es.length ≤ 1000000) :
    Calls Try.prog 15 #[.pointer (some ⟨hb, 0, none⟩)] w fun e w' => e = .returned (.tuple #[.agg #[.int .i64 (Hp.g es 0).1, .int .i64 (Hp.g es 0).2], .bool (decide (0 < es.length))]) ∧
      ∃ sv' es', Own B w' hb sv' mb es' ∧ Tail es es' ∧ (sv'.ownBlock = sv.ownBlock ∨ ∀ g, sv'.ownBlock = some g → w.heap.size ≤ g) ∧ Left B hb mb sv w w' :=
  (pop_c hb mb sv es w h.heap hlen).mono fun _ _ ⟨h1, sv', es', h2, h3, h4, h5⟩ => ⟨h1, sv', es', ⟨h2, h.b1, h.b2, fun g e => h.b3 g (by rw [← h4]; exact e)⟩, h3, .inl h4, h5, h5.below_of hB h.b1 h.b2 h.b3⟩

/-- The least of a heap. -/
theorem least_of {es : List It} {x : It} (ho : Ord es) (hx : x ∈ es) (hl : ∀ y ∈ es, le x y) : Hp.g es 0 = x := by
  obtain ⟨i, hi, rfl⟩ := mem_g.1 hx
  exact le_antisymm (ho.least i hi) (hl _ (mem_g.2 ⟨0, by omega, rfl⟩))
theorem le_by {a b : It} (h : a.2 < b.2) : le a b := le_of_lt (ltE_iff.2 (.inl h))

set_option maxHeartbeats 8000000 in
set_option maxRecDepth 100000 in
theorem awake_c (w : World) : Calls Try.prog 8 #[] w fun e w' => e = .returned (.bool true) ∧ Below w.heap.size w w' := by
  have KN := new_o w
  have w1 : W64 1 := by decide
  have w2' : W64 2 := by decide
  go_enter Try.func8, Try.ntmps8
  go_wp2_with fail
  refine KN.mono ?_
  rintro e wa ⟨hba, hb, mb, sv, rfl, ho⟩
  have KS := set_o (k := 1) (by0 := 3) ho hba.size w1 (by decide)
  have HB := Lib.hid hba
  clear hba ho KN
  go_wp2_with fail
  refine KS.mono ?_
  rintro e wb ⟨rfl, sv1, es1, ho, hp, _, hl⟩
  obtain rfl : es1 = [(1, 3)] := by simpa using hp
  have KS := set_o (k := 2) (by0 := 1) ho (by have := hl.below.size; have := HB.out.size; omega) w2' (by decide)
  have HB := Lib.hid (HB.out.trans hl.below)
  clear hp hl ho
  go_wp2_with fail
  refine KS.mono ?_
  rintro e wc ⟨rfl, sv2, es2, ho, hp, _, hl⟩
  have hp2 : es2.Perm [(2, 1), (1, 3)] := hp
  have KS := set_o (k := 1) (by0 := 0) ho (by have := hl.below.size; have := HB.out.size; omega) w1 (by rw [hp2.length_eq]; decide)
  have HB := Lib.hid (HB.out.trans hl.below)
  clear hp hl ho
  go_wp2_with fail
  refine KS.mono ?_
  rintro e wd ⟨rfl, sv3, es3, ho, hp, _, hl⟩
  have hp3 : es3.Perm [(1, 0), (2, 1)] := hp.trans ((hp2.filter _).cons _)
  have hg : Hp.g es3 0 = (1, 0) := least_of ho.heap.ord (hp3.mem_iff.2 (by simp)) fun y hy => by
    have := hp3.mem_iff.1 hy
    simp at this
    rcases this with rfl | rfl
    · exact le_refl _
    · exact le_by (by decide)
  have hl3 : es3.length = 2 := hp3.length_eq
  have KP := pop_o ho (by have := hl.below.size; have := HB.out.size; omega) (by omega)
  rw [hg, hl3] at KP
  have HB := Lib.hid (HB.out.trans hl.below)
  have HP := Lib.hid (And.intro hp3 (And.intro hg hl3))
  clear hp hl ho hp2 hp3 hg hl3
  go_wp2_with fail
  refine KP.mono ?_
  rintro e we ⟨rfl, sv4, es4, ho, ht, _, hl⟩
  obtain ⟨hp3, hg, hl3⟩ := HP.out
  have hp4 : es4.Perm [(2, 1)] := by
    unfold Tail at ht
    rw [if_pos (by omega), hg] at ht
    exact (ht.symm.trans hp3).cons_inv
  have hb1 := bA' (Below.refl we.heap.size we) (Nat.le_refl _) (.cells #[.int .i64 1, .int .i64 0] 33)
  have hsz := Nat.le_trans HB.out.size hl.below.size
  have ho5 := ho.below hb1
  obtain rfl : es4 = [(2, 1)] := List.perm_singleton.1 hp4
  have KP := pop_o ho5 (by rw [World.size_alloc]; omega) (by decide)
  have HB := Lib.hid ((HB.out.trans hl.below).alloc hsz (.cells #[.int .i64 1, .int .i64 0] 33))
  have HE := Lib.hid (And.intro (World.alloc_heap_new we (.cells #[.int .i64 1, .int .i64 0] 33)) ho.heap.lt)
  clear hp3 hg hl3 hp4 hb1 hsz ho5 ho ht hl HP KS
  go_wp2_with fail
  refine KP.mono ?_
  rintro e wf ⟨rfl, sv5, es5, ho, ht, _, hl⟩
  have hes5 : es5 = [] := by
    unfold Tail at ht
    rw [if_pos (by decide)] at ht
    have h2 := ht.length_eq
    simp only [List.length_cons, List.length_nil] at h2
    exact List.eq_nil_of_length_eq_zero (by omega)
  subst hes5
  obtain ⟨e1, l1, l2, l3⟩ := HE.out
  have f1 := (hl.touch.block we.heap.size (by simp) (by omega) (by omega) (fun e => by have := l3 _ e.symm; omega)).trans e1
  have hb2 := bA' (Below.refl wf.heap.size wf) (Nat.le_refl _) (.cells #[.int .i64 2, .int .i64 1] 33)
  have f2 := (hb2.block _ (Array.getElem?_eq_some_iff.1 f1).1).trans f1
  have f3 := World.alloc_heap_new wf (.cells #[.int .i64 2, .int .i64 1] 33)
  obtain ⟨a1, a2, _⟩ := cell_two f2
  obtain ⟨b1, b2, _⟩ := cell_two f3
  have KL := len_c hb mb sv5 [] _ (ho.below hb2).heap
  have hsz := Nat.le_trans HB.out.size hl.below.size
  have HB := Lib.hid ((HB.out.trans hl.below).alloc hsz (.cells #[.int .i64 2, .int .i64 1] 33))
  clear e1 l1 l2 l3 f1 f2 f3 hb2 ho ht hl HE KP hsz
  go_wp2_with (first | (go_at_call 12; refine KL.mono ?_; rintro e wg ⟨rfl, rfl⟩))
  go_ret
  exact ⟨rfl, HB.out⟩
end Go.Proofs.Ytngeinmpnjfhfaa
