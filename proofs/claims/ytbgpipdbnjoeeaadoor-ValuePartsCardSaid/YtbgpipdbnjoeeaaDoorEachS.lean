/-
  The contracts of package value's each at texts over this seat's translation: a new list of the texts of the items. Conditions: those that each theorem states.
-/
import Derived.Test.YtbgpipdbnjoeeaaDoorRightA
import Derived.Deep.OwnRows
namespace Go.Proofs.YtbgpipdbnjoeeaaDoor
open Go.RowKit Go.ChangeShapes Go.WideShapes Go.ChangeAt Go.Deep
attribute [local go_sem ↓] Go.wp_at_zero Go.wp_at_succ

theorem infoStr : (Tryd.prog.info? 9).map (fun i => (i.zero, i.size, i.bytes)) = some (some (.string ⟨#[]⟩), 1, 16) := by kernel_rfl

/-- A new list of texts. -/
def Strs (w : World) (n : Nat) (S : Nat → ByteArray) (e : Ending) (w' : World) : Prop :=
  ∃ bk : Nat, e = .returned (.slice (some ⟨bk, 0, none⟩) n n) ∧ w'.rowIs bk 9 n (fun i => .string (S i)) ∧ Below w.heap.size w w'

/-- What is asked of the world, and stays. -/
def Stays (E : World → Prop) : Prop := ∀ w w' : World, Below w.heap.size w w' → E w → E w'

def upto (S : Nat → ByteArray) (k : Nat) : Nat → Value := fun i => if i < k then .string (S i) else .string ⟨#[]⟩
theorem upto_set (S : Nat → ByteArray) (k : Nat) : ∀ i, (if i = k then Value.string (S k) else upto S k i) = upto S (k + 1) i := fun i => by
  unfold upto
  by_cases h : i = k
  · subst h; simp
  · by_cases h2 : i < k
    · rw [if_neg h, if_pos h2, if_pos (by omega)]
    · rw [if_neg h, if_neg h2, if_neg (by omega)]

set_option maxHeartbeats 1000000 in
theorem eachVS_c (E : World → Prop) (hE : Stays E) (t : VT) (h1 : 1 ≤ t.len) (h4 : t.len ≤ 20) (S : Nat → ByteArray)
    (ih : ∀ i, i < t.len → ∀ (sl : Value) (w : World), E w → VT.In w (t.kid i) sl → Calls Tryd.prog 24 #[(t.kid i).val sl] w fun e w' => e = .returned (.string (S i)) ∧ Below w.heap.size w w')
    (sl : Value) (w : World) (he : E w) (hin : VT.In w t sl) :
    Calls Tryd.prog 44 #[sl, .func (.func 24) #[] #[]] w (Strs w t.len S) := by
  obtain ⟨_, _, _, hl, p, cap, rfl, hlc, hcap, hk⟩ := hin.out
  obtain ⟨b, o, rfl, hk2⟩ := hk h1
  have HK : Hid (VT.Kids w t b o) := hk2
  have HI := Lib.hid ih
  have HE := Lib.hid he
  clear hk hk2 hin ih he
  have hz : ((t.len : Int) == 0) = false := by simp; omega
  have hmk := run_make_row' (P := Tryd.prog) 58 9 (.string ⟨#[]⟩) 16 Tryd.underlying58 infoStr rfl .i64 .i64 t.len (by omega) (by omega)
  go_enter Tryd.func44, Tryd.ntmps44
  go_wp2
  clear hmk
  go_loopw [16] (fun vk wr => ∃ k : Nat, vk = .int .i64 k ∧ k ≤ t.len ∧ wr.rowIs w.heap.size 9 t.len (upto S k) ∧ Below w.heap.size w wr) (fun vk _ => t.len - (intOf vk).toNat)
  case atStart => exact ⟨0, rfl, Nat.zero_le _, (World.rowIs_made w _ t.len 9).congr (fun j _ => by simp [upto]), bA (Below.refl _ _) _⟩
  case round =>
    obtain ⟨k, rfl, hkl, hrow, hbl⟩ := hrel
    have HR := Lib.hid hrow
    clear hrow
    by_cases hlt : k < t.len
    · obtain ⟨sl', ⟨c0, c1, c2, c3⟩, hkin⟩ := HK.out.keep hbl k hlt
      obtain ⟨p', cap', rfl⟩ := hkin.slice
      have HN := Lib.hid hkin
      clear hkin
      have hr2 := HI.out k hlt
      have HC := Lib.hid hr2
      clear hr2
      have hE2 := hE _ _ hbl HE.out
      have HE2 := Lib.hid hE2
      clear hE2
      go_wp2_with (go_at_call 24; go_must (refine (HC.out _ _ (hE _ _ (bA (Below.refl _ _) _) HE2.out) (inK (bA (Below.refl _ _) _) HN.out)).mono ?_); rintro e w3 ⟨rfl, hb⟩; have hrow3 := (HR.out.alloc (.cells #[.int .i64 (t.kid k).k, .int .i64 (t.kid k).n, .string (t.kid k).s, .slice p' (t.kid k).len cap'] 24)).of_block (hb.block _ (by simp; exact Nat.lt_succ_of_lt HR.out.lt)); have HR3 := Lib.hid hrow3; clear hrow3; have hc := HR3.out.cell hlt; have hf := HR3.out.frozen k)
      go_roundw
      case rel => exact ⟨k + 1, by go_num, by omega, (HR3.out.set k _).congr (fun i _ => upto_set S k i), bS (bT hbl (bT (bA (Below.refl _ _) _) hb)) (by simp) _⟩
      case measure => simp [intOf]; omega
    · have e : k = t.len := by omega
      subst e
      go_wp2
      go_ret
      exact ⟨w.heap.size, rfl, HR.out.congr (fun i hi => by unfold upto; rw [if_pos hi]), hbl⟩
end Go.Proofs.YtbgpipdbnjoeeaaDoor
