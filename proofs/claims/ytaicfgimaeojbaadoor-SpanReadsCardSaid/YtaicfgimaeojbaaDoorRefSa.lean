/-
  The contract of the given package gavotteref01's Right over this seat's translation, whole (as RefS, without Cmp). Conditions: the numbers are ints.
-/
import Derived.Test.YtaicfgimaeojbaaDoorRefNb
import Derived.Test.YtaicfgimaeojbaaDoorRefN
namespace Go.Proofs.YtaicfgimaeojbaaDoor
open Go.RowKit

theorem rright_c (n d : Int) (hn : In64 n) (hd : In64 d) (w : World) :
    Calls Tryd.prog 7 #[.agg #[.int .i64 n, .int .i64 d]] w fun e w' => e = .returned (.bool (rightB n d)) ∧ Below w.heap.size w w' := by
  by_cases h : isNever n d
  · obtain ⟨rfl, rfl⟩ := h
    rw [right_never]
    exact rright_never w
  · by_cases h2 : 0 < d ∧ 0 ≤ n
    · exact rright_yes n d hn hd h h2.1 h2.2 w
    · exact rright_no n d hn hd h (by omega) w
theorem plain_of {n d : Int} (h : rightB n d = true) (hn : ¬ isNever n d) : plainR n d := by
  unfold rightB at h
  simp at h
  rcases h with h | h
  · exact absurd h hn
  · exact h
def At2 (g : Nat) (a b : Int) (w : World) : Prop := w.cell? ⟨g, 0, none⟩ = some (.int .i64 a) ∧ w.cell? ⟨g, 1, none⟩ = some (.int .i64 b)
theorem At2.keep {g : Nat} {a b : Int} {w w' : World} (h : At2 g a b w) (hb : Below w.heap.size w w') : At2 g a b w' := ⟨keepc hb h.1, keepc hb h.2⟩
theorem never_or {n d : Int} (h : ¬ isNever n d) : (n == 1) = false ∨ (n = 1 ∧ (d == 0) = false) := by
  by_cases e : n = 1
  · right
    refine ⟨e, ?_⟩
    have : ¬ d = 0 := fun e2 => h ⟨e, e2⟩
    simpa using this
  · left
    simpa using e
end Go.Proofs.YtaicfgimaeojbaaDoor
