/-
  The contracts of the given package gavotteref01's made and Make over this seat's translation. Conditions: those that each theorem states.
-/
import Derived.Test.YtaicfgimaeojbaaDoorRefK
import Derived.Test.YtaicfgimaeojbaaDoorSpanF
namespace Go.Proofs.YtaicfgimaeojbaaDoor
open Go.RowKit
attribute [local go_sem ↓] Go.wp_at_zero Go.wp_at_succ

/-- A time of noughts that the call made, at block g. -/
structure ZT (g : Nat) (w : World) : Prop where
  c0 : w.cell? ⟨g, 0, none⟩ = some (.int .i64 0)
  c1 : w.cell? ⟨g, 1, none⟩ = some (.int .i64 0)
  f0 : w.frozen? ⟨g, 0, none⟩ = false
  f1 : w.frozen? ⟨g, 1, none⟩ = false
theorem ZT.keep {g : Nat} {w w' : World} (h : ZT g w) (hb : Below w.heap.size w w') : ZT g w' :=
  ⟨keepc hb h.c0, keepc hb h.c1, keepf hb h.c0 h.f0, keepf hb h.c1 h.f1⟩

def madeS (A B : Int) : Int × Int × Int := fitT 0 (A / (Int.gcd A B : Int)) 0 (B / (Int.gcd A B : Int))

theorem sgn_pos {x y : Int} (h : y < x) : 0 < sgn x y := by rw [sgn_gt h]; omega
theorem sgn_npos {x y : Int} (h : ¬ y < x) : ¬ 0 < sgn x y := by unfold sgn; (repeat' split) <;> omega

end Go.Proofs.YtaicfgimaeojbaaDoor
