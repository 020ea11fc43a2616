/-
  The contract of the law SpanOrders over this seat's translation: whatever three times it is handed, it answers true. Conditions: the numbers are ints.
-/
import Derived.Test.YthdadpafankbfaaDoorOrdersW
import Derived.Test.YthdadpafankbfaaDoorSpanMath3
namespace Go.Proofs.YthdadpafankbfaaDoor
open Go.RowKit

theorem orders_c (an ad bn bd cn cd : Int) (ha : In64 an ∧ In64 ad) (hb : In64 bn ∧ In64 bd) (hc : In64 cn ∧ In64 cd) (w : World) :
    Calls Tryd.prog 3 #[.agg #[.int .i64 an, .int .i64 ad], .agg #[.int .i64 bn, .int .i64 bd], .agg #[.int .i64 cn, .int .i64 cd]] w fun e w' => e = .returned (.bool true) ∧ Below w.heap.size w w' := by
  have kba := cmp_c bn bd an ad hb ha
  have kab := cmp_c an ad bn bd ha hb
  rw [cmp_anti an ad bn bd] at kab
  have kaa := cmp_c an ad an ad ha ha
  rw [cmp_self] at kaa
  have kra := right_c an ad ha.1 ha.2
  have krb := right_c bn bd hb.1 hb.2
  have krc := right_c cn cd hc.1 hc.2
  obtain ⟨y1, y2⟩ := cmp_in bn bd an ad
  cases ra : rightB an ad
  · rw [ra] at kra
    exact orders_nr0 an ad bn bd cn cd _ y1 y2 kab kba kaa kra w
  · rw [ra] at kra
    cases rb : rightB bn bd
    · rw [rb] at krb
      exact orders_nr1 an ad bn bd cn cd _ y1 y2 kab kba kaa kra krb w
    · rw [rb] at krb
      cases rc : rightB cn cd
      · rw [rc] at krc
        exact orders_nr2 an ad bn bd cn cd _ y1 y2 kab kba kaa kra krb krc w
      · rw [rc] at krc
        refine orders_ok an ad bn bd cn cd _ _ _ _ _ _ _ _ _ y1 y2 ?_ ?_ ?_ kab kba kaa kra krb krc (cmp_c bn bd cn cd hb hc) (cmp_c an ad cn cd ha hc) (add_c an ad cn cd ha hc) (add_c bn bd cn cd hb hc) ?_ w
        · intro h
          obtain ⟨rfl, rfl⟩ := cmp_zero rb ra h
          exact ⟨rfl, rfl, rfl⟩
        · intro h
          by_cases k : an = bn
          · refine .inr fun k2 => h ?_
            subst k k2
            exact cmp_self _ _
          · exact .inl k
        · intro h h2
          refine cmp_trans ra rb rc ?_ h2
          rw [cmp_anti]
          omega
        · intro h1 h2 h3 w
          have e := cmp_sums (an := an) (ad := ad) (bn := bn) (bd := bd) (cn := cn) (cd := cd) (sn := (addS an ad cn cd).1) (sd := (addS an ad cn cd).2.1) (tn := (addS bn bd cn cd).1) (td := (addS bn bd cn cd).2.1) (by rw [← h1]) (by rw [← h2]) h3
          have k := cmp_c _ _ _ _ (add_in an ad cn cd) (add_in bn bd cn cd) w
          rw [e, cmp_anti an ad bn bd] at k
          exact k
end Go.Proofs.YthdadpafankbfaaDoor
