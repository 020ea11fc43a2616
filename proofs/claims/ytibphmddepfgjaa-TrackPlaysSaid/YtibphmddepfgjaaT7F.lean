/-
  slices.Backward and slices.All of a list of entries over this seat's translation. Conditions: those that each theorem states.
-/
import Derived.Test.YtibphmddepfgjaaT7E
namespace Go.Proofs.Ytibphmddepfgjaa.Tr
open Go.RowKit Go.Shelf Go.Lib Go.Sort
attribute [local go_sem] Oper.semAt_some

theorem backf_c (p : Option Addr) (n cap : Nat) (w : World) : Calls Try.prog 30 #[.slice p n cap] w fun e w' =>
    e = .returned (.func (.func 45) #[] #[.pointer (some ⟨w.heap.size, 0, none⟩)]) ∧ w' = w.alloc (.cells #[.slice p n cap] 64) := by
  go_enter Try.func30, Try.ntmps30
  go_wp2
  go_ret
  exact ⟨rfl, rfl⟩
theorem allsf_c (p : Option Addr) (n cap : Nat) (w : World) : Calls Try.prog 37 #[.slice p n cap] w fun e w' =>
    e = .returned (.func (.func 51) #[] #[.pointer (some ⟨w.heap.size, 0, none⟩)]) ∧ w' = w.alloc (.cells #[.slice p n cap] 64) := by
  go_enter Try.func37, Try.ntmps37
  go_wp2
  go_ret
  exact ⟨rfl, rfl⟩
theorem eg_backf : ∀ args w, (callFunc 45 args).run Try.prog w = .ok (.enter 45 args) w := enters_of Try.func45 (by kernel_rfl) rfl
theorem eg_allsf : ∀ args w, (callFunc 51 args).run Try.prog w = .ok (.enter 51 args) w := enters_of Try.func51 (by kernel_rfl) rfl
theorem gE_rev {L : List En} {k : Nat} (hk : k < L.length) : gE L.reverse k = gE L (L.length - 1 - k) := by
  unfold gE
  rw [List.getD_eq_getElem?_getD, List.getD_eq_getElem?_getD, List.getElem?_reverse hk]
/-- A list of entries that lies in safe memory. -/
def SafeL (safe : Nat → Obj → Prop) (W : World) (p : Option Addr) (L : List En) : Prop := L = [] ∨ ∃ g off o, p = some ⟨g, off, none⟩ ∧ W.heap[g]? = some o ∧ safe g o ∧ ∀ j u, (L.flatMap cE)[j]? = some u → W.cell? ⟨g, off + j, none⟩ = some u
theorem SafeL.at {safe : Nat → Obj → Prop} {W : World} {p : Option Addr} {L : List En} (h : SafeL safe W p L) {i : Nat} (hi : i < L.length) : ∃ g off o, p = some ⟨g, off, none⟩ ∧ W.heap[g]? = some o ∧ safe g o ∧ W.cell? ⟨g, off + i * 4, none⟩ = some (.int .i64 (gE L i).1.1) ∧ W.cell? ⟨g, off + i * 4 + 1, none⟩ = some (.int .i64 (gE L i).1.2.1) ∧ W.cell? ⟨g, off + i * 4 + 2, none⟩ = some (.int .i64 (gE L i).1.2.2) ∧ W.cell? ⟨g, off + i * 4 + 3, none⟩ = some (.int .i64 (gE L i).2) := by
  rcases h with rfl | ⟨g, off, o, rfl, h1, h2, h⟩
  · simp at hi
  · have hg := gE_get hi
    exact ⟨g, off, o, rfl, h1, h2, h (i * 4 + 0) _ (flat_at hg (j := 0) rfl), by rw [Nat.add_assoc]; exact h (i * 4 + 1) _ (flat_at hg (j := 1) rfl), by rw [Nat.add_assoc]; exact h (i * 4 + 2) _ (flat_at hg (j := 2) rfl), by rw [Nat.add_assoc]; exact h (i * 4 + 3) _ (flat_at hg (j := 3) rfl)⟩

set_option maxRecDepth 100000 in
set_option maxHeartbeats 8000000 in
theorem backf_seq (Bv cap : Nat) (p : Option Addr) (L : List En) (safe : Nat → Obj → Prop) (w : World) (hn : L.length ≤ 2000000)
    (hbox : w.heap[Bv]? = some (.cells #[.slice p L.length cap] 64 (0, 0))) (hbs : safe Bv (.cells #[.slice p L.length cap] 64 (0, 0))) (hrow : SafeL safe w p L) :
    SeqN 45 #[] #[.pointer (some ⟨Bv, 0, none⟩)] L.reverse.length (fun k => #[.int .i64 ((L.length : Int) - 1 - (k : Int)), entV (gE L.reverse k)]) safe w := by
  intro l J Jx W hW hJ hJx hY h0
  have hk0 : Kept safe w W := Kept.below hW
  obtain ⟨n, hln⟩ : ∃ n, L.length = n := ⟨_, rfl⟩
  have hrl : L.reverse.length = n := by rw [List.length_reverse, hln]
  have hgr : ∀ k, k < n → gE L.reverse k = gE L (n - 1 - k) := fun k hk => by rw [gE_rev (by omega), hln]
  have hrow2 := fun i (hi : i < n) => hrow.at (i := i) (by omega)
  rw [hrl] at hY ⊢
  rw [hln] at hbox hbs hY hn
  have c0 : W.cell? ⟨Bv, 0, none⟩ = some (.slice p n cap) := by unfold World.cell?; rw [hk0.same _ _ hbs hbox]; rfl
  have HY := Lib.hid hY
  have HROW := Lib.hid (And.intro hrow2 hgr)
  have HB := Lib.hid (And.intro hbs hbox)
  have H0 := Lib.hid (And.intro h0 hk0)
  have hw1 : IntKind.i64.wrap ((n : Int) - 1) = (n : Int) - 1 := by rw [IntKind.wrap_i64] <;> omega
  clear hY hrow hrow2 hgr hbs hbox h0 hk0 hrl hln
  refine callsIn_of_wp Try.func45 rfl trivial ?_ rfl
  simp only [Try.ntmps45, List.size_toArray, List.length_cons, List.length_nil, Nat.reduceAdd, Nat.reduceSub, Array.replicate_succ, Array.replicate_zero, List.push_toArray, List.append_toArray, List.nil_append, List.cons_append]
  gi_wp2
  gi_loopw [3] (fun v wr => ∃ k : Nat, v = .int .i64 ((n : Int) - 1 - (k : Int)) ∧ k ≤ n ∧ Hid (J k wr ∧ Kept safe w wr)) (fun v _ => (intOf v + 1).toNat)
  case atStart => exact ⟨0, by simp, Nat.zero_le _, H0⟩
  case round =>
    obtain ⟨k, rfl, hk, HR⟩ := hrel
    by_cases hlt : k < n
    · obtain ⟨g, off, u, rfl, hu, hus, y0, y1, y2, y3⟩ := HROW.out.1 (n - 1 - k) (by omega)
      obtain ⟨q, hq⟩ : ∃ q, q = n - 1 - k := ⟨_, rfl⟩
      have zq : (n : Int) - 1 - (k : Int) = (q : Int) := by omega
      obtain ⟨fn, tm, asg, bd, hy, hR⟩ := HY.out k wr HR.out.1 hlt
      rw [HROW.out.2 k hlt] at hy
      rw [← hq] at y0 y1 y2 y3 hy
      rw [zq] at hy ⊢
      obtain ⟨x, hx⟩ : ∃ x, gE L q = x := ⟨_, rfl⟩
      rw [hx] at y0 y1 y2 y3 hy
      have b1 : wr.cell? ⟨Bv, 0, none⟩ = some (.slice (some ⟨g, off, none⟩) n cap) := by unfold World.cell?; rw [HR.out.2.same _ _ HB.out.1 HB.out.2]; rfl
      have hsm : ∀ j (v : Value), w.cell? ⟨g, j, none⟩ = some v → wr.cell? ⟨g, j, none⟩ = some v := fun j v h => by rw [← h]; exact World.cell?_of_block ((HR.out.2.same _ _ hus hu).trans hu.symm)
      have x0 := hsm _ _ y0
      have x1 := hsm _ _ y1
      have x2 := hsm _ _ y2
      have x3 := hsm _ _ y3
      have hqn : (q : Int) < (n : Int) := by omega
      have hq0 : (0 : Int) ≤ (q : Int) := by omega
      have hqk : q + k + 1 = n := by omega
      have hw2 : IntKind.i64.wrap ((q : Int) - 1) = (q : Int) - 1 := by rw [IntKind.wrap_i64] <;> omega
      clear hq zq y0 y1 y2 y3 hsm hu hus hx
      gi_wp2
      refine ⟨rfl, hR.mono ?_⟩
      rintro e W3 (⟨rfl, hj, hkp, _⟩ | ⟨rfl, hjx, _⟩)
      · have H3 := Lib.hid (show J (k + 1) W3 ∧ Kept safe w W3 from ⟨hj, HR.out.2.trans hkp⟩)
        clear hj hkp hy hR b1 x0 x1 x2 x3
        gi_wp2
        go_roundw
        case rel => exact ⟨k + 1, by congr 1; omega, by omega, H3⟩
        case measure => simp [intOf]
      · have H3 := Lib.hid hjx
        clear hjx hy hR b1 x0 x1 x2 x3
        gi_wp2
        refine bodyPost_ret (results_none rfl _ _ _) rfl ?_
        exact ⟨⟨_, rfl⟩, .inr ⟨k + 1, hlt, H3.out⟩⟩
    · obtain rfl : k = n := by omega
      have zk : decide ((k : Int) - 1 - (k : Int) ≥ 0) = false := decide_eq_false (by omega)
      have zk2 : ¬ (0 : Int) ≤ (k : Int) - 1 - (k : Int) := by omega
      gi_wp2
      go_end0
      exact ⟨⟨_, rfl⟩, .inl HR.out.1⟩

set_option maxRecDepth 100000 in
set_option maxHeartbeats 8000000 in
theorem allsf_seq (Bv cap : Nat) (p : Option Addr) (L : List En) (safe : Nat → Obj → Prop) (w : World) (hn : L.length ≤ 2000000)
    (hbox : w.heap[Bv]? = some (.cells #[.slice p L.length cap] 64 (0, 0))) (hrow : SafeL safe w p L) :
    SeqN 51 #[] #[.pointer (some ⟨Bv, 0, none⟩)] L.length (fun k => #[.int .i64 (k : Int), entV (gE L k)]) safe w := by
  intro l J Jx W hW hJ hJx hY h0
  have hk0 : Kept safe w W := Kept.below hW
  obtain ⟨n, hln⟩ : ∃ n, L.length = n := ⟨_, rfl⟩
  have hrow2 := fun i (hi : i < n) => hrow.at (i := i) (by omega)
  have hboxW := kbE hbox hW
  rw [hln] at hbox hboxW hY hn ⊢
  have c0 : W.cell? ⟨Bv, 0, none⟩ = some (.slice p n cap) := by unfold World.cell?; rw [hboxW]; rfl
  have HY := Lib.hid hY
  have HROW := Lib.hid hrow2
  have HOJ := Lib.hid hJ
  have H0 := Lib.hid (And.intro h0 hk0)
  clear hY hrow hrow2 hbox hboxW h0 hk0 hln hJ hJx
  refine callsIn_of_wp Try.func51 rfl trivial ?_ rfl
  simp only [Try.ntmps51, List.size_toArray, List.length_cons, List.length_nil, Nat.reduceAdd, Nat.reduceSub, Array.replicate_succ, Array.replicate_zero, List.push_toArray, List.append_toArray, List.nil_append, List.cons_append]
  gi_wp2
  gi_loopw [7] (fun v wr => ∃ k : Nat, v = .int .i64 (k : Int) ∧ k ≤ n ∧ Hid (J k wr ∧ Kept safe w wr)) (fun v _ => n - (intOf v).toNat)
  case atStart => exact ⟨0, rfl, Nat.zero_le _, H0⟩
  case round =>
    obtain ⟨k, rfl, hk, HR⟩ := hrel
    by_cases hlt : k < n
    · obtain ⟨g, off, u, rfl, hu, hus, y0, y1, y2, y3⟩ := HROW.out k hlt
      have hkz : (k : Int) < (n : Int) := by omega
      have hk0 : (0 : Int) ≤ (k : Int) := by omega
      have hri : IntKind.i64.wrap ((k : Int) + 1) = ((k + 1 : Nat) : Int) := by rw [IntKind.wrap_i64]; omega
      obtain ⟨x, hx⟩ : ∃ x, gE L k = x := ⟨_, rfl⟩
      rw [hx] at y0 y1 y2 y3
      have hba : Below wr.heap.size wr (wr.alloc (.cells #[.int .i64 x.1.1, .int .i64 x.1.2.1, .int .i64 x.1.2.2, .int .i64 x.2] 71)) := bA' (Below.refl _ _) (Nat.le_refl _) _
      have hJ1 : J k (wr.alloc (.cells #[.int .i64 x.1.1, .int .i64 x.1.2.1, .int .i64 x.1.2.2, .int .i64 x.2] 71)) := HOJ.out _ _ _ none HR.out.1 (grown_of_below hba) (fun r e => by cases e)
      obtain ⟨fn, tm, asg, bd, hy, hR⟩ := HY.out k _ hJ1 hlt
      rw [hx] at hy
      have hsm : ∀ j (v : Value), w.cell? ⟨g, j, none⟩ = some v → wr.cell? ⟨g, j, none⟩ = some v := fun j v h => by rw [← h]; exact World.cell?_of_block ((HR.out.2.same _ _ hus hu).trans hu.symm)
      have x0 := hsm _ _ y0
      have x1 := hsm _ _ y1
      have x2 := hsm _ _ y2
      have x3 := hsm _ _ y3
      have HKA := Lib.hid (show Kept safe w (wr.alloc (.cells #[.int .i64 x.1.1, .int .i64 x.1.2.1, .int .i64 x.1.2.2, .int .i64 x.2] 71)) from HR.out.2.trans (Kept.below hba))
      clear y0 y1 y2 y3 hsm hu hus hx hba hJ1
      gi_wp2
      refine ⟨rfl, hR.mono ?_⟩
      rintro e W3 (⟨rfl, hj, hkp, _⟩ | ⟨rfl, hjx, _⟩)
      · have H3 := Lib.hid (show J (k + 1) W3 ∧ Kept safe w W3 from ⟨hj, HKA.out.trans hkp⟩)
        clear hj hkp hy hR x0 x1 x2 x3
        gi_wp2
        go_roundw
        case rel => exact ⟨k + 1, rfl, by omega, H3⟩
        case measure => simp [intOf]; omega
      · have H3 := Lib.hid hjx
        clear hjx hy hR x0 x1 x2 x3
        gi_wp2
        refine bodyPost_ret (results_none rfl _ _ _) rfl ?_
        exact ⟨⟨_, rfl⟩, .inr ⟨k + 1, hlt, H3.out⟩⟩
    · obtain rfl : k = n := by omega
      have hkz : ¬ ((k : Int) < (k : Int)) := by omega
      gi_wp2
      go_end0
      exact ⟨⟨_, rfl⟩, .inl HR.out.1⟩
end Go.Proofs.Ytibphmddepfgjaa.Tr
