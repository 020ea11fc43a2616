/-
  The program's own track is what the laws want of a track, over this seat's translation. Conditions: those that each theorem states.
-/
import Derived.Test.YtibphmddepfgjaaT7M
namespace Go.Proofs.Ytibphmddepfgjaa.Tr
open Go.RowKit Go.Shelf Go.Lib Go.Sort

/-- The program's track in memory. -/
def Tk (W : World) (b k : Nat) (L : List En) (F : Nat → Prop) : Prop := ∃ G v, TkS W b k L G v ∧ ∀ x, F x ↔ Fp b G x
theorem Leaves.into {F F' : Nat → Prop} {W W' : World} (h : Leaves F W W') (hF : ∀ x, F x → F' x) : Leaves F' W W' := ⟨h.os, h.tape, h.output, h.size, fun b hb hn => h.same b hb fun k => hn (hF b k)⟩
theorem zero_least {x : Sp} (h : x.R = true) : 0 ≤ cmp x (0, 1, 0) := by
  obtain ⟨n, d, c⟩ := x
  have hz : sRight 0 1 0 = true := by decide
  have h1 := sRight_iff.1 (show sRight n d c = true from h)
  have h2 := right_bd h1.1
  have hc : cmpS n d 0 1 = sgn n 0 := by
    unfold cmpS
    rw [if_pos ⟨h1.1, (sRight_iff.1 hz).1⟩, Int.mul_one, Int.zero_mul]
  show 0 ≤ sCmp n d c 0 1 0
  rw [sCmp_yes h hz, hc]
  have h3 := h1.2.1.1
  have h4 := h2.1
  show 0 ≤ if sgn n 0 = 0 then sgn c 0 else sgn n 0
  unfold sgn
  (repeat' split) <;> omega
theorem from_zero {L : List En} (h : Rise L) : fromL L (0, 1, 0) = L := by
  have hz : Sp.R (0, 1, 0) = true := by decide
  have hl : lessL L (0, 1, 0) = [] := filter_none fun a ha => decide_eq_false (by have := zero_least (h.2 a ha).1; omega)
  have h1 := less_split h hz
  unfold fromL
  rw [if_pos hz]
  rw [hl, List.nil_append] at h1
  exact h1.symm
theorem all_calls {W : World} {b k : Nat} {L : List En} {G : Option Nat} {v : Value} (h : TkS W b k L G v) : Calls Try.prog 23 #[.pointer (some ⟨b, 0, none⟩)] W fun e W' => ∃ gf lb, e = .returned (.func (.func gf) #[] lb) ∧ (∀ args w, (callFunc gf args).run Try.prog w = .ok (.enter gf args) w) ∧ Below W.heap.size W W' ∧ SeqP gf lb L.length (fun j => #[(gE L j).1.v, .int .i64 (gE L j).2]) (fun _ => False) W' := by
  refine (allf_c _ W).mono ?_
  rintro e W' ⟨rfl, rfl⟩
  obtain ⟨h1, h2, h3, h4⟩ := fromW_lays (some ⟨b, 0, none⟩) (0, 1, 0) W
  have hs := from_seq W.heap.size (W.heap.size + 1) (0, 1, 0) ⟨by decide, by decide, by decide⟩ h2 h3 (h.below h1)
  rw [from_zero h.rise] at hs
  exact ⟨_, _, rfl, eg_from, h1, hs⟩
theorem from_calls {W : World} {b k : Nat} {L : List En} {F : Nat → Prop} (s : Sp) (h : Tk W b k L F) (hs : s.I) : Calls Try.prog 22 #[.pointer (some ⟨b, 0, none⟩), s.v] W fun e W' => ∃ gf lb, e = .returned (.func (.func gf) #[] lb) ∧ (∀ args w, (callFunc gf args).run Try.prog w = .ok (.enter gf args) w) ∧ Below W.heap.size W W' ∧ SeqP gf lb (fromL L s).length (fun j => #[(gE (fromL L s) j).1.v, .int .i64 (gE (fromL L s) j).2]) (fun _ => False) W' := by
  obtain ⟨G, v, hT, _⟩ := h
  refine (fromf_c _ s W).mono ?_
  rintro e W' ⟨rfl, rfl⟩
  obtain ⟨h1, h2, h3, h4⟩ := fromW_lays (some ⟨b, 0, none⟩) s W
  exact ⟨_, _, rfl, eg_from, h1, from_seq W.heap.size (W.heap.size + 1) s hs h2 h3 (hT.below h1)⟩
theorem of_put {W W' : World} {b k : Nat} {L : List En} {F : Nat → Prop} {G : Option Nat} (hF : ∀ x, F x ↔ Fp b G x) (h : PutS W b k L G W') : ∃ F', Tk W' b k L F' ∧ Within F F' W ∧ Leaves F W W' := by
  obtain ⟨G', v', h1, h2⟩ := h.ex
  refine ⟨Fp b G', ⟨G', v', h1, fun _ => Iff.rfl⟩, fun y hy => ?_, h.lv.into fun x hx => (hF x).2 hx⟩
  rcases hy with rfl | e
  · exact .inl ((hF _).2 (.inl rfl))
  · rcases h2 with e2 | ⟨g, e2, hg⟩
    · exact .inl ((hF _).2 (.inr (e2 ▸ e)))
    · have : g = y := by rw [e2] at e; simpa using e
      exact .inr (this ▸ hg)
theorem of_gone {W W' : World} {b k : Nat} {L : List En} {F : Nat → Prop} {G : Option Nat} {X : List Int} {e : Ending} (hF : ∀ x, F x ↔ Fp b G x) (hlt : ∀ x, F x → x < W.heap.size) (h : GoneS W b k L G X e W') : ∃ p cap F', e = .returned (.slice p X.length cap) ∧ InList cIn W' p X ∧ (∀ g off, p = some ⟨g, off, none⟩ → X ≠ [] → ¬ F' g ∧ (F g ∨ W.heap.size ≤ g)) ∧ Tk W' b k L F' ∧ Within F F' W ∧ Leaves F W W' := by
  obtain ⟨p, cap, he, hin, hfar⟩ := h.ret
  obtain ⟨G', v', h1, h2⟩ := h.ex
  have hsub : ∀ y, Fp b G' y → F y := fun y hy => by
    rcases hy with rfl | e
    · exact (hF _).2 (.inl rfl)
    · exact (hF _).2 (.inr (h2 y e))
  refine ⟨p, cap, Fp b G', he, hin, fun g off e hX => ?_, ⟨G', v', h1, fun _ => Iff.rfl⟩, fun y hy => .inl (hsub y hy), h.lv.into fun x hx => (hF x).2 hx⟩
  have hg := hfar g off e hX
  exact ⟨fun k => by have := hlt g (hsub g k); omega, .inr hg⟩

theorem tkC : TkC Tk where
  ok := by
    rintro W b k L F ⟨G, v, h, _⟩
    exact ⟨h.room.1, h.room.2.1, h.room.2.2, h.rise, h.small⟩
  lt := by
    rintro W b k L F ⟨G, v, h, hF⟩ x hx
    exact h.lt x ((hF x).1 hx)
  keep := by
    rintro W W' b k L F ⟨G, v, h, hF⟩ _ hk
    exact ⟨G, v, h.keep fun x hx => hk x ((hF x).2 hx), hF⟩
  new := fun k W h1 h2 => (newT_c k ⟨h1, h2⟩ W).mono fun e W' ⟨he, hT, hb⟩ => ⟨W.heap.size, Fp W.heap.size none, he, ⟨none, _, hT, fun _ => Iff.rfl⟩, fun x hx => by
    rcases hx with rfl | e
    · exact Nat.le_refl _
    · exact absurd e (by simp), hb⟩
  newNo := fun k W _ hk => newTNo_c k hk W
  at_ := by
    rintro W b k L F s ⟨G, v, h, _⟩ hs
    exact (atT_c h s hs).mono fun e W' ⟨he, hb⟩ => ⟨he, hb⟩
  put := by
    rintro W b k L F s x ⟨G, v, h, hF⟩ hs hx
    exact (putT_c h s x hs hx).mono fun e W' ⟨he, hp⟩ => ⟨he, of_put hF hp⟩
  set := by
    rintro W b k L F s x ⟨G, v, h, hF⟩ hs hx
    exact (setT_c h s x hs hx).mono fun e W' ⟨he, hp⟩ => ⟨he, of_put hF hp⟩
  back := by
    rintro W b k L F s ⟨G, v, h, hF⟩ hs
    exact (backT_c h s hs).mono fun e W' hg => of_gone hF (fun x hx => h.lt x ((hF x).1 hx)) hg
  free := by
    rintro W b k L F s ⟨G, v, h, hF⟩ hs
    exact (freeT_c h s hs).mono fun e W' hg => of_gone hF (fun x hx => h.lt x ((hF x).1 hx)) hg
  len := by
    rintro W b k L F ⟨G, v, h, _⟩
    exact lenT_c h
  all := by
    rintro W b k L F ⟨G, v, h, _⟩
    exact all_calls h
  told := by
    rintro W b k L F ⟨G, v, h, _⟩
    exact told_c _ L (by have := h.room; omega) W fun V hV => all_calls (h.below hV)
end Go.Proofs.Ytibphmddepfgjaa.Tr
