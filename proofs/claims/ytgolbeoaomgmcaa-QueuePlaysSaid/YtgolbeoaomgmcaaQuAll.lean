/-
  queue's All over this seat's translation: the places and items, as they are when it is gone over. Conditions: those that each theorem states.
-/
import Derived.Test.YtgolbeoaomgmcaaQuG
import Derived.Test.YtgolbeoaomgmcaaQuSeqP
namespace Go.Proofs.Ytgolbeoaomgmcaa
open Go.RowKit Go.Shelf Go.Lib Go.Sort Qu
attribute [local go_sem] Oper.semAt_some

set_option maxHeartbeats 1000000 in
theorem allf_c (p : Option Addr) (w : World) : Calls Try.prog 16 #[.pointer p] w fun e w' =>
    e = .returned (.func (.func 23) #[] #[.pointer (some ⟨w.heap.size, 0, none⟩)]) ∧ w' = w.alloc (.cells #[.pointer p] 24) := by
  go_enter Try.func16, Try.ntmps16
  go_wp2
  go_ret
  exact ⟨rfl, rfl⟩
set_option maxHeartbeats 1000000 in
theorem eachNil_c (l : Nat) (w : World) : Calls Try.prog 24 #[.pointer none, .func (.yield l) #[] #[]] w fun e w' => e = .returned (.tuple #[]) ∧ w = w' := by
  have KL := lenNil_c w
  go_enter Try.func24, Try.ntmps24
  go_wp2_with fail
  refine KL.mono ?_
  rintro e w1 ⟨rfl, rfl⟩
  clear KL
  go_wp2
  go_loopw [7] (fun v wr => v = .int .i64 0 ∧ wr = w) (fun _ _ => 0)
  case atStart => exact ⟨rfl, rfl⟩
  case round =>
    obtain ⟨rfl, rfl⟩ := hrel
    go_wp2
    go_end0
    exact ⟨rfl, rfl⟩
set_option maxRecDepth 100000 in
set_option maxHeartbeats 4000000 in
theorem allNil_seq (Bv : Nat) (safe : Nat → Obj → Prop) (ar : Nat → Array Value) (w : World) (hbox : w.heap[Bv]? = some (.cells #[.pointer none] 24 (0, 0))) :
    SeqN 23 #[] #[.pointer (some ⟨Bv, 0, none⟩)] 0 ar safe w := by
  intro l J Jx W hW hJ hJx hY h0
  have c0 : W.cell? ⟨Bv, 0, none⟩ = some (.pointer none) := by unfold World.cell?; rw [hW.block Bv (Array.getElem?_eq_some_iff.1 hbox).1, hbox]; rfl
  have H0 := Lib.hid h0
  have KC := Lib.hid (copyNil_c W)
  have KE := Lib.hid (eachNil_c l W)
  clear hY h0
  refine callsIn_of_wp Try.func23 rfl trivial ?_ rfl
  simp only [Try.ntmps23, List.size_toArray, List.length_cons, List.length_nil, Nat.reduceAdd, Nat.reduceSub, Array.replicate_succ, Array.replicate_zero, List.push_toArray, List.append_toArray, List.nil_append, List.cons_append]
  gi_wp2_with fail
  refine ⟨trivial, rfl, ?_⟩
  refine callsIn_wide.2 (KC.out.mono ?_)
  rintro e w1 ⟨rfl, rfl⟩
  gi_wp2_with fail
  refine ⟨trivial, rfl, ?_⟩
  refine callsIn_wide.2 (KE.out.mono ?_)
  rintro e w2 ⟨rfl, rfl⟩
  gi_wp2
  go_end0
  exact ⟨⟨_, rfl⟩, .inl H0.out⟩

theorem own_mono {B B' : Nat} {J : Nat → World → Prop} (h : OwnFrom B J) (hb : B ≤ B') : OwnFrom B' J := fun s A C row hs hg hr => h s A C row hs hg fun r e => by
  obtain ⟨h1, h2⟩ := hr r e
  exact ⟨by omega, h2⟩

set_option maxRecDepth 100000 in
set_option maxHeartbeats 8000000 in
theorem all_seqP {Bv q k : Nat} {p : Option Addr} {xs : List Int} {w : World} (hbox : w.heap[Bv]? = some (.cells #[.pointer (some ⟨q, 0, none⟩)] 24 (0, 0))) (hq : Own 0 w q p k xs) :
    SeqP 23 #[.pointer (some ⟨Bv, 0, none⟩)] xs.length (fun j => #[.int .i64 j, .int .i64 (gI xs j)]) (fun _ => False) w := by
  intro l J Jx W hW hJ hJx hJin hY h0
  have c0 : W.cell? ⟨Bv, 0, none⟩ = some (.pointer (some ⟨q, 0, none⟩)) := by unfold World.cell?; rw [hW.block Bv (Array.getElem?_eq_some_iff.1 hbox).1, hbox]; rfl
  have KC := Lib.hid (copy_o (hq.below hW) (Nat.zero_le _))
  have HY := Lib.hid hY
  have HJ := Lib.hid (And.intro hJ (And.intro hJx h0))
  clear hY h0 hJ hJx hJin hbox hq hW
  refine callsIn_of_wp Try.func23 rfl trivial ?_ rfl
  simp only [Try.ntmps23, List.size_toArray, List.length_cons, List.length_nil, Nat.reduceAdd, Nat.reduceSub, Array.replicate_succ, Array.replicate_zero, List.push_toArray, List.append_toArray, List.nil_append, List.cons_append]
  gi_wp2_with fail
  refine ⟨trivial, rfl, ?_⟩
  refine callsIn_wide.2 (KC.out.mono ?_)
  rintro e w1 ⟨c, g, rfl, hc, hc1, hg1, hb1⟩
  have HC := Lib.hid (And.intro hc (And.intro hc1 (And.intro hg1 hb1)))
  clear hc hc1 hg1 hb1 KC c0
  gi_wp2_with fail
  refine ⟨trivial, rfl, ?_⟩
  obtain ⟨hc, hc1, hg1, hb1⟩ := HC.out
  have hlt := hc.lt
  obtain ⟨R, f, hs⟩ := hc.que
  obtain ⟨hJ, hJx, h0⟩ := HJ.out
  have hown : OwnFrom w1.heap.size fun j V => J w1.heap.size j V ∧ w1.heap.size ≤ V.heap.size := by
    rintro s A C row ⟨h1, h2⟩ hgr hr
    exact ⟨own_mono (hJ w1.heap.size) hb1.size s A C row h1 hgr hr, Nat.le_trans h2 hgr.size⟩
  have hE := each_seq (safe := fun b o => o.isCells = true ∧ W.heap.size ≤ b ∧ b < w1.heap.size) hs (by
    intro b o hb hbq
    rcases hbq with rfl | e
    · rw [hs.box] at hb
      cases hb
      exact ⟨rfl, hc1, hlt.1⟩
    · have h2 := hlt.2 b e
      rw [(hs.at e).2] at hb
      cases hb
      simp [blk] at e
      exact ⟨rfl, by omega, h2⟩)
    l (fun j V => J w1.heap.size j V ∧ w1.heap.size ≤ V.heap.size) (fun j V => Jx w1.heap.size j V) w1 (Below.refl _ _) hown (own_mono (hJx w1.heap.size) hb1.size) (by
    rintro j W1 ⟨h1, h2⟩ hj
    obtain ⟨fn, tm, asg, bd, hy, hR⟩ := HY.out w1.heap.size j W1 hb1.size h2 h1 hj
    refine ⟨fn, tm, asg, bd, hy, hR.mono ?_⟩
    rintro e W' (⟨rfl, k1, k2, k3⟩ | ⟨rfl, k1, k3⟩)
    · exact .inl ⟨rfl, ⟨k1, Nat.le_trans h2 k3.size⟩, ⟨k2.size, fun b o hb ho => k2.same b o (.inr hb.2) ho hb.1⟩, from_mono k3 hb1.size⟩
    · exact .inr ⟨rfl, k1, from_mono k3 hb1.size⟩) ⟨h0 w1 hb1, Nat.le_refl _⟩
  refine CallsIn.mono (show CallsIn _ _ _ _ #[.pointer (some ⟨c, 0, none⟩), .func (.yield l) #[] #[]] _ _ from hE) ?_
  have HB1 := Lib.hid hb1.size
  clear hE hown hJ hJx h0 hs hlt hc hc1 hg1 hb1 HC HJ HY
  rintro e w2 ⟨⟨v, rfl⟩, h⟩
  have HZ := Lib.hid h
  clear h
  gi_wp2
  go_end0
  refine ⟨⟨_, rfl⟩, w1.heap.size, HB1.out, ?_⟩
  rcases HZ.out with h | h
  · exact .inl h.1
  · exact .inr h
end Go.Proofs.Ytgolbeoaomgmcaa
