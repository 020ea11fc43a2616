/-
  gavottelaw04's done and firstKey over this seat's translation. Conditions: those that each theorem states.
-/
import Derived.Test.YtngeinmpnjfhfaaHpAwake
import Derived.Test.YtngeinmpnjfhfaaHpFrame
namespace Go.Proofs.Ytngeinmpnjfhfaa
open Go.RowKit Go.Shelf Go.Lib Go.Sort Hp Go.Maps

/-- What a call comes to. -/
def Step (x : Ac) (es es' : List It) : Prop :=
  if x.1 % 8 < 4 then es'.Perm ((x.2.1, x.2.2) :: sans es x.2.1) else if x.1 % 8 = 4 then es'.Perm (sans es x.2.1) else if x.1 % 8 = 6 then Tail es es' else es' = es
theorem sans_le (L : List It) (k : Int) : (sans L k).length ≤ L.length := List.length_filter_le _ _
theorem Tail.len {es es' : List It} (h : Tail es es') : es'.length ≤ es.length := by
  unfold Tail at h
  split at h
  · have := h.length_eq
    rw [List.length_cons] at this
    omega
  · rw [h]; exact Nat.le_refl _
theorem Step.len {x : Ac} {es es' : List It} (h : Step x es es') : es'.length ≤ es.length + 1 := by
  unfold Step at h
  have hs := sans_le es x.2.1
  split at h
  · rw [h.length_eq, List.length_cons]; omega
  · split at h
    · rw [h.length_eq]; omega
    · split at h
      · have := h.len; omega
      · rw [h]; omega
theorem Left.pre {B hb mb : Nat} {sv : Value} {w w1 w2 : World} (h : Left B hb mb sv w1 w2) (hb1 : Below w.heap.size w w1) (hB : B ≤ w.heap.size) : Left B hb mb sv w w2 :=
  ⟨(TouchH.below hb1).trans h.touch (.inl rfl), (Below.trans ⟨hb1.os, hb1.tape, hb1.output, hb1.size, fun k hk => hb1.block k (by omega)⟩ h.below)⟩
/-- What an own row, or map's value, comes to. -/
abbrev Same (sv sv' : Value) (w : World) : Prop := sv'.ownBlock = sv.ownBlock ∨ ∀ g, sv'.ownBlock = some g → w.heap.size ≤ g

set_option maxHeartbeats 16000000 in
set_option maxRecDepth 100000 in
theorem done_o {B hb mb : Nat} (x : Ac) {sv : Value} {es : List It} {w : World} (h : Own B w hb sv mb es) (hB : B ≤ w.heap.size) (hx : 0 ≤ x.1 ∧ x.1 ≤ 255 ∧ W64 x.2.1 ∧ W64 x.2.2) (hlen : es.length + 1 ≤ 1000000) :
    Calls Try.prog 11 #[.pointer (some ⟨hb, 0, none⟩), .agg #[.int .u8 x.1, .int .i64 x.2.1, .int .i64 x.2.2]] w fun e w' => e = .returned (.tuple #[]) ∧ ∃ sv' es', Own B w' hb sv' mb es' ∧ Step x es es' ∧ Same sv sv' w ∧ Left B hb mb sv w w' := by
  obtain ⟨d, k, b⟩ := x
  obtain ⟨d1, d2, hk, _⟩ := hx
  dsimp only at d1 d2 hk ⊢
  have hbX : Below w.heap.size w (w.alloc (.cells #[.int .u8 d, .int .i64 k, .int .i64 b] 29)) := bA' (Below.refl _ _) (Nat.le_refl _) _
  have hX := World.alloc_heap_new w (.cells #[.int .u8 d, .int .i64 k, .int .i64 b] 29)
  obtain ⟨x0, x1, x2, _⟩ := cell_three hX
  have h2 := h.below hbX
  have hB2 : B ≤ (w.alloc (.cells #[.int .u8 d, .int .i64 k, .int .i64 b] 29)).heap.size := by rw [World.size_alloc]; omega
  have KS := set_o (k := k) (by0 := b) h2 hB2 hk hlen
  have KD := del_o (k := k) h2 hB2 hk (by omega)
  have KP := pop_o h2 hB2 (by omega)
  have HH := Lib.hid (And.intro h2 (And.intro hbX hB))
  have hr0 : Int.tmod d 8 = d % 8 := Int.tmod_eq_emod_of_nonneg d1
  have hr : ∃ r : Int, Int.tmod d 8 = r ∧ (r = 0 ∨ r = 1 ∨ r = 2 ∨ r = 3 ∨ r = 4 ∨ r = 5 ∨ r = 6 ∨ r = 7) := ⟨_, rfl, by rw [hr0]; omega⟩
  obtain ⟨r, hr1, hr2⟩ := hr
  have HR := Lib.hid (show d % 8 = r from by rw [← hr0, hr1])
  have hw8 : IntKind.u8.wrap r = r := by rcases hr2 with rfl | rfl | rfl | rfl | rfl | rfl | rfl | rfl <;> decide
  have hsame : ∀ sv' : Value, (sv'.ownBlock = sv.ownBlock ∨ ∀ g, sv'.ownBlock = some g → (w.alloc (.cells #[.int .u8 d, .int .i64 k, .int .i64 b] 29)).heap.size ≤ g) → Same sv sv' w := fun sv' h => h.imp id fun h g e => by have := h g e; rw [World.size_alloc] at this; omega
  have HSM := Lib.hid hsame
  clear h h2 hB2 hbX hX hr0 hB hk hlen d1 d2 hsame
  rcases hr2 with rfl | rfl | rfl | rfl | rfl | rfl | rfl | rfl
  · go_enter Try.func11, Try.ntmps11
    go_wp2_with fail
    refine KS.mono ?_
    rintro e w2 ⟨rfl, sv', es', q1, q2, q3, q4⟩
    have HQ := Lib.hid (And.intro q1 (And.intro q2 (And.intro q3 q4)))
    clear q1 q2 q3 q4 KS KD KP
    go_wp2
    go_end0
    exact ⟨rfl, sv', es', HQ.out.1, by unfold Step; rw [if_pos (by rw [HR.out]; decide)]; exact HQ.out.2.1, HSM.out _ HQ.out.2.2.1, HQ.out.2.2.2.pre HH.out.2.1 HH.out.2.2⟩
  · go_enter Try.func11, Try.ntmps11
    go_wp2_with fail
    refine KS.mono ?_
    rintro e w2 ⟨rfl, sv', es', q1, q2, q3, q4⟩
    have HQ := Lib.hid (And.intro q1 (And.intro q2 (And.intro q3 q4)))
    clear q1 q2 q3 q4 KS KD KP
    go_wp2
    go_end0
    exact ⟨rfl, sv', es', HQ.out.1, by unfold Step; rw [if_pos (by rw [HR.out]; decide)]; exact HQ.out.2.1, HSM.out _ HQ.out.2.2.1, HQ.out.2.2.2.pre HH.out.2.1 HH.out.2.2⟩
  · go_enter Try.func11, Try.ntmps11
    go_wp2_with fail
    refine KS.mono ?_
    rintro e w2 ⟨rfl, sv', es', q1, q2, q3, q4⟩
    have HQ := Lib.hid (And.intro q1 (And.intro q2 (And.intro q3 q4)))
    clear q1 q2 q3 q4 KS KD KP
    go_wp2
    go_end0
    exact ⟨rfl, sv', es', HQ.out.1, by unfold Step; rw [if_pos (by rw [HR.out]; decide)]; exact HQ.out.2.1, HSM.out _ HQ.out.2.2.1, HQ.out.2.2.2.pre HH.out.2.1 HH.out.2.2⟩
  · go_enter Try.func11, Try.ntmps11
    go_wp2_with fail
    refine KS.mono ?_
    rintro e w2 ⟨rfl, sv', es', q1, q2, q3, q4⟩
    have HQ := Lib.hid (And.intro q1 (And.intro q2 (And.intro q3 q4)))
    clear q1 q2 q3 q4 KS KD KP
    go_wp2
    go_end0
    exact ⟨rfl, sv', es', HQ.out.1, by unfold Step; rw [if_pos (by rw [HR.out]; decide)]; exact HQ.out.2.1, HSM.out _ HQ.out.2.2.1, HQ.out.2.2.2.pre HH.out.2.1 HH.out.2.2⟩
  · go_enter Try.func11, Try.ntmps11
    go_wp2_with fail
    refine KD.mono ?_
    rintro e w2 ⟨rfl, sv', es', q1, q2, q3, q4⟩
    have HQ := Lib.hid (And.intro q1 (And.intro q2 (And.intro q3 q4)))
    clear q1 q2 q3 q4 KS KD KP
    go_wp2
    go_end0
    exact ⟨rfl, sv', es', HQ.out.1, by unfold Step; rw [if_neg (by rw [HR.out]; decide), if_pos HR.out]; exact HQ.out.2.1, HSM.out _ HQ.out.2.2.1, HQ.out.2.2.2.pre HH.out.2.1 HH.out.2.2⟩
  · go_enter Try.func11, Try.ntmps11
    clear KS KD KP
    go_wp2
    go_end0
    exact ⟨rfl, sv, es, HH.out.1, by unfold Step; rw [if_neg (by rw [HR.out]; decide), if_neg (by rw [HR.out]; decide), if_neg (by rw [HR.out]; decide)], .inl rfl, .of_below HH.out.2.1 HH.out.2.2⟩
  · go_enter Try.func11, Try.ntmps11
    go_wp2_with fail
    refine KP.mono ?_
    rintro e w2 ⟨rfl, sv', es', q1, q2, q3, q4⟩
    have HQ := Lib.hid (And.intro q1 (And.intro q2 (And.intro q3 q4)))
    clear q1 q2 q3 q4 KS KD KP
    go_wp2
    go_end0
    exact ⟨rfl, sv', es', HQ.out.1, by unfold Step; rw [if_neg (by rw [HR.out]; decide), if_neg (by rw [HR.out]; decide), if_pos HR.out]; exact HQ.out.2.1, HSM.out _ HQ.out.2.2.1, HQ.out.2.2.2.pre HH.out.2.1 HH.out.2.2⟩
  · go_enter Try.func11, Try.ntmps11
    clear KS KD KP
    go_wp2
    go_end0
    exact ⟨rfl, sv, es, HH.out.1, by unfold Step; rw [if_neg (by rw [HR.out]; decide), if_neg (by rw [HR.out]; decide), if_neg (by rw [HR.out]; decide)], .inl rfl, .of_below HH.out.2.1 HH.out.2.2⟩

set_option maxHeartbeats 1000000 in
theorem firstKey_o {B hb mb : Nat} {sv : Value} {es : List It} {w : World} (h : Own B w hb sv mb es) :
    Calls Try.prog 14 #[.pointer (some ⟨hb, 0, none⟩)] w fun e w' => e = .returned (.int .i64 (Hp.g es 0).1) ∧ Below w.heap.size w w' := by
  have KM := min_c hb mb sv es w h.heap
  clear h
  go_enter Try.func14, Try.ntmps14
  go_wp2_with fail
  refine KM.mono ?_
  rintro e w1 ⟨rfl, hb1⟩
  have HB := Lib.hid (hb1.alloc hb1.size (.cells #[.int .i64 (Hp.g es 0).1, .int .i64 (Hp.g es 0).2] 33))
  clear hb1 KM
  go_wp2
  go_ret
  exact ⟨rfl, HB.out⟩
end Go.Proofs.Ytngeinmpnjfhfaa
