/-
  value.Parts over this seat's translation: which iterator it hands over. Conditions: those that each theorem states.
-/
import Derived.Test.YtbgpipdbnjoeeaaDoorSeqC
namespace Go.Proofs.YtbgpipdbnjoeeaaDoor
open Go.RowKit Go.Shelf Go.ChangeShapes Go.WideShapes Go.ChangeAt Go.Deep
attribute [local go_sem ↓] Go.wp_at_zero Go.wp_at_succ

set_option maxHeartbeats 1000000 in
set_option maxRecDepth 100000 in
theorem vparts_no (t : VT) (h : t.okB = false) (sl : Value) (w : World) (hin : VT.In w t sl) :
    Calls Tryd.prog 9 #[t.val sl] w fun e w' => e = .returned (.func (.func 19) #[] #[]) ∧ Below w.heap.size w w' := by
  obtain ⟨p, cap, rfl⟩ := hin.slice
  have HR := Lib.hid (fun w hin => h ▸ right_cv t (.slice p t.len cap) w hin)
  have HN := Lib.hid hin
  clear hin
  unfold VT.val
  go_enter Tryd.func9, Tryd.ntmps9
  go_wp2_with fail
  refine (HR.out _ (inK (bA (Below.refl _ w) _) HN.out)).mono ?_
  rintro e w1 ⟨rfl, hb⟩
  have WB := bT (bA (Below.refl _ w) _) hb
  go_wp2
  go_ret
  exact ⟨rfl, WB⟩

def PartsYes (t : VT) (w : World) (e : Ending) (w' : World) : Prop := ∃ (K : Nat) (p : Option Addr) (cap : Nat), e = .returned (.func (.func 21) #[] #[.pointer (some ⟨K, 0, none⟩)]) ∧
  w'.heap[K]? = some (.cells #[.int .i64 t.k, .int .i64 t.n, .string t.s, .slice p t.len cap] 24 (0, 0)) ∧ w.heap.size ≤ K ∧ t.Fresh w.heap.size w' (.slice p t.len cap) ∧ Below w.heap.size w w'

set_option maxHeartbeats 1000000 in
set_option maxRecDepth 100000 in
theorem vparts_yes (t : VT) (h : t.okB = true) (hsm : t.Sm) (sl : Value) (w : World) (hin : VT.In w t sl) :
    Calls Tryd.prog 9 #[t.val sl] w (PartsYes t w) := by
  obtain ⟨p, cap, rfl⟩ := hin.slice
  have HR := Lib.hid (fun w hin => h ▸ right_cv t (.slice p t.len cap) w hin)
  have HC := Lib.hid (copy_c t hsm (.slice p t.len cap))
  have HN := Lib.hid hin
  clear hin
  unfold VT.val
  go_enter Tryd.func9, Tryd.ntmps9
  go_wp2_with fail
  refine (HR.out _ (inK (bA (Below.refl _ w) _) HN.out)).mono ?_
  rintro e w1 ⟨rfl, hb⟩
  have c0 := kc hb (p := ⟨w.heap.size, 0, none⟩) (v := .int .i64 t.k) (by go_simp)
  have c1 := kc hb (p := ⟨w.heap.size, 1, none⟩) (v := .int .i64 t.n) (by go_simp)
  have c2 := kc hb (p := ⟨w.heap.size, 2, none⟩) (v := .string t.s) (by go_simp)
  have c3 := kc hb (p := ⟨w.heap.size, 3, none⟩) (v := .slice p t.len cap) (by go_simp)
  have WB := bT (bA (Below.refl _ w) _) hb
  clear hb
  go_wp2_with fail
  refine (HC.out _ (inK WB HN.out)).mono ?_
  rintro e w2 hret
  obtain ⟨p2, cap2, rfl, hfr, hb⟩ := hret
  have hsz := WB.size
  have hb2 : Below w2.heap.size w2 (w2.alloc (.cells #[.int .i64 t.k, .int .i64 t.n, .string t.s, .slice p2 t.len cap2] 24)) := bA (Below.refl _ w2) _
  have H1 := Lib.hid (show w.heap.size ≤ w2.heap.size ∧ VT.Fresh w.heap.size (w2.alloc (.cells #[.int .i64 t.k, .int .i64 t.n, .string t.s, .slice p2 t.len cap2] 24)) t (.slice p2 t.len cap2) ∧ Below w.heap.size w (w2.alloc (.cells #[.int .i64 t.k, .int .i64 t.n, .string t.s, .slice p2 t.len cap2] 24)) from
    ⟨by have := hb.size; omega, (hfr.mono hsz).below hb2, bT (bT WB hb) hb2⟩)
  clear hfr hb hb2 c0 c1 c2 c3 WB hsz
  go_wp2
  go_ret
  exact ⟨w2.heap.size, p2, cap2, rfl, World.alloc_heap_new w2 _, H1.out.1, H1.out.2.1, H1.out.2.2⟩

/-- Of a value that is not right nothing comes. -/
theorem parts0_seq (safe : World → Nat → Obj → Prop) (w : World) : Seq 19 #[] [] safe w := by
  intro l J Jx W hW hJ hJx hY h0
  have HJ := Lib.hid h0
  clear hY h0
  refine callsIn_wide.2 ?_
  simp only [List.append_toArray, List.cons_append, List.nil_append]
  go_enter Tryd.func19, Tryd.ntmps19
  go_wp2
  go_end0
  exact ⟨⟨_, rfl⟩, .inl ⟨[], rfl, HJ.out⟩⟩
end Go.Proofs.YtbgpipdbnjoeeaaDoor
