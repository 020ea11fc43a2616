/-
  The contract of the given package gavotteref01's Num.Add over this seat's translation, the walk: the sum. Conditions: those that each theorem states.
-/
import Derived.Test.YtaicfgimaeojbaaDoorRefE
import Derived.Test.YtaicfgimaeojbaaDoorRefF
namespace Go.Proofs.YtaicfgimaeojbaaDoor
open Go.RowKit
attribute [local go_sem ↓] Go.wp_at_zero Go.wp_at_succ

theorem OwnL.snoc {w : World} {B : Nat} {v : Value} {l : List Int} {x : Int} {n : Nat} (hn : l.length = n) (h : w.ownsRow B 3 1 v (n + 1) (l.map (Value.int .i64) ++ [.int .i64 x])) : OwnL w B v (l ++ [x]) := by
  subst hn
  simp only [OwnL, List.length_append, List.length_singleton, List.map_append, List.map_cons, List.map_nil]
  exact h
theorem OwnL.is {w : World} {B : Nat} {v : Value} {l : List Int} (h : OwnL w B v l) (hd : Dig l) (hc : Can l) : NumIs w v (val l) := ⟨l, h.num, hd, hc, rfl, h.shp⟩
theorem getD_out {l : List Int} {i : Nat} (h : ¬ i < l.length) : l.getD i 0 = 0 := by simp [List.getD, List.getElem?_eq_none (Nat.le_of_not_lt h)]

def AddRel (la lb : List Int) (w : World) (vo vc vi : Value) (wr : World) : Prop :=
  ∃ (i : Nat) (os : List Int) (c : Int), OwnL wr w.heap.size vo os ∧ vc = .int .i64 c ∧ vi = .int .i64 i ∧ AddI la lb i os c ∧ Below w.heap.size w wr

end Go.Proofs.YtaicfgimaeojbaaDoor
