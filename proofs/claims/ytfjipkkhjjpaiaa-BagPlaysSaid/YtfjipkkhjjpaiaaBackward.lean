/-
  slices.Backward of a list of numbers over this seat's translation: the places and numbers, the last first. Conditions: those that each theorem states.
-/
import Derived.Test.YtfjipkkhjjpaiaaSeqN
import Derived.TacticsInMore
import Derived.LoopIn
namespace Go.Proofs.Ytfjipkkhjjpaiaa
open Go.RowKit Go.Shelf Go.Lib Go.Sort
attribute [local go_sem] Oper.semAt_some

theorem backward_c (p : Option Addr) (n cap : Nat) (w : World) : Calls Try.prog 59 #[.slice p n cap] w fun e w' =>
    e = .returned (.func (.func 64) #[] #[.pointer (some ⟨w.heap.size, 0, none⟩)]) ∧ w' = w.alloc (.cells #[.slice p n cap] 22) := by
  go_enter Try.func59, Try.ntmps59
  go_wp2
  go_ret
  exact ⟨rfl, rfl⟩

set_option maxRecDepth 100000 in
set_option maxHeartbeats 4000000 in
theorem backward1_seq (Bv n cap : Nat) (p : Option Addr) (pl : Nat → Int) (safe : Nat → Obj → Prop) (w : World) (hn : n ≤ 1000000)
    (hbox : w.heap[Bv]? = some (.cells #[.slice p n cap] 22 (0, 0))) (hbs : safe Bv (.cells #[.slice p n cap] 22 (0, 0)))
    (hrow : ∀ i, i < n → ∃ g u, p = some ⟨g, 0, none⟩ ∧ w.heap[g]? = some u ∧ safe g u ∧ w.cell? ⟨g, i, none⟩ = some (.int .i64 (pl i))) :
    SeqN 64 #[.pointer (some ⟨Bv, 0, none⟩)] n (fun k => #[.int .i64 ((n : Int) - 1 - (k : Int)), .int .i64 (pl (n - 1 - k))]) safe w := by
  intro l J Jx W hW hJ hJx hY h0
  have hk0 : Kept safe w W := Kept.below hW
  have c0 : W.cell? ⟨Bv, 0, none⟩ = some (.slice p n cap) := by unfold World.cell?; rw [hk0.same _ _ hbs hbox]; rfl
  have HY := Lib.hid hY
  have HROW := Lib.hid hrow
  have HB := Lib.hid (And.intro hbs hbox)
  have H0 := Lib.hid (And.intro h0 hk0)
  have hw1 : IntKind.i64.wrap ((n : Int) - 1) = (n : Int) - 1 := by rw [IntKind.wrap_i64] <;> omega
  clear hY hrow hbs hbox h0 hk0
  refine callsIn_of_wp Try.func64 rfl trivial ?_ rfl
  simp only [Try.ntmps64, List.size_toArray, List.length_cons, List.length_nil, Nat.reduceAdd, Nat.reduceSub, Array.replicate_succ, Array.replicate_zero, List.push_toArray, List.append_toArray, List.nil_append, List.cons_append]
  gi_wp2
  gi_loopw [3] (fun v wr => ∃ k : Nat, v = .int .i64 ((n : Int) - 1 - (k : Int)) ∧ k ≤ n ∧ Hid (J k wr ∧ Kept safe w wr)) (fun v _ => (intOf v + 1).toNat)
  case atStart => exact ⟨0, by simp, Nat.zero_le _, H0⟩
  case round =>
    obtain ⟨k, rfl, hk, HR⟩ := hrel
    by_cases hlt : k < n
    · obtain ⟨g, u, rfl, hu, hus, hc⟩ := HROW.out (n - 1 - k) (by omega)
      obtain ⟨q, hq⟩ : ∃ q, q = n - 1 - k := ⟨_, rfl⟩
      have zq : (n : Int) - 1 - (k : Int) = (q : Int) := by omega
      obtain ⟨fn, tm, asg, bd, hy, hR⟩ := HY.out k wr HR.out.1 hlt
      rw [← hq] at hc hy
      rw [zq] at hy ⊢
      have b1 : wr.cell? ⟨Bv, 0, none⟩ = some (.slice (some ⟨g, 0, none⟩) n cap) := by unfold World.cell?; rw [HR.out.2.same _ _ HB.out.1 HB.out.2]; rfl
      have r1 : wr.cell? ⟨g, q, none⟩ = some (.int .i64 (pl q)) := by rw [← hc]; exact World.cell?_of_block ((HR.out.2.same _ _ hus hu).trans hu.symm)
      have hqn : (q : Int) < (n : Int) := by omega
      have hqk : q + k + 1 = n := by omega
      have hw2 : IntKind.i64.wrap ((q : Int) - 1) = (q : Int) - 1 := by rw [IntKind.wrap_i64] <;> omega
      clear hq zq hc hu hus
      gi_wp2
      refine ⟨rfl, hR.mono ?_⟩
      rintro e W3 (⟨rfl, hj, hkp, _⟩ | ⟨rfl, hjx, _⟩)
      · have H3 := Lib.hid (show J (k + 1) W3 ∧ Kept safe w W3 from ⟨hj, HR.out.2.trans hkp⟩)
        clear hj hkp hy hR b1 r1
        gi_wp2
        go_roundw
        case rel => exact ⟨k + 1, by congr 1; omega, by omega, H3⟩
        case measure => simp [intOf]
      · have H3 := Lib.hid hjx
        clear hjx hy hR b1 r1
        gi_wp2
        refine bodyPost_ret (results_none rfl _ _ _) rfl ?_
        exact ⟨⟨_, rfl⟩, .inr ⟨k + 1, hlt, H3.out⟩⟩
    · obtain rfl : k = n := by omega
      have zk : decide ((k : Int) - 1 - (k : Int) ≥ 0) = false := decide_eq_false (by omega)
      have zk2 : ¬ (0 : Int) ≤ (k : Int) - 1 - (k : Int) := by omega
      gi_wp2
      go_end0
      exact ⟨⟨_, rfl⟩, .inl HR.out.1⟩
end Go.Proofs.Ytfjipkkhjjpaiaa
