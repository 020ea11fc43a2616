/-
  The contract of the law SpanThirds over this seat's translation: whatever three times it is handed, it answers true. Conditions: the numbers are ints.
-/
import Derived.Test.YthdadpafankbfaaDoorThirdsW
import Derived.Test.YthdadpafankbfaaDoorSpanMath2
namespace Go.Proofs.YthdadpafankbfaaDoor
open Go.RowKit

theorem thirds_c (an ad bn bd cn cd : Int) (ha : In64 an ∧ In64 ad) (hb : In64 bn ∧ In64 bd) (hc : In64 cn ∧ In64 cd) (w : World) :
    Calls Tryd.prog 12 #[.agg #[.int .i64 an, .int .i64 ad], .agg #[.int .i64 bn, .int .i64 bd], .agg #[.int .i64 cn, .int .i64 cd]] w fun e w' => e = .returned (.bool true) ∧ Below w.heap.size w w' := by
  have k1 := add_c an ad bn bd ha hb
  have k2 := add_c bn bd cn cd hb hc
  have i1 := add_in an ad bn bd
  have i2 := add_in bn bd cn cd
  obtain ⟨xn, xd, xe, hx⟩ : ∃ xn xd xe, addS an ad bn bd = (xn, xd, xe) := ⟨_, _, _, rfl⟩
  obtain ⟨yn, yd, ye, hy⟩ : ∃ yn yd ye, addS bn bd cn cd = (yn, yd, ye) := ⟨_, _, _, rfl⟩
  rw [hx] at k1 i1
  rw [hy] at k2 i2
  by_cases h1 : xe = 0
  · by_cases h2 : ye = 0
    · subst h1 h2
      have e := add_assoc hx hy
      have k3 := add_c xn xd cn cd i1 hc
      have k4 := add_c an ad yn yd ha i2
      rw [← e] at k4
      exact thirds_ok an ad bn bd cn cd xn xd yn yd _ _ _ k1 k2 k3 k4 w
    · exact thirds_e1 an ad bn bd cn cd xn xd xe yn yd ye k1 k2 (.inr ⟨h1, h2⟩) w
  · exact thirds_e1 an ad bn bd cn cd xn xd xe yn yd ye k1 k2 (.inl h1) w
end Go.Proofs.YthdadpafankbfaaDoor
