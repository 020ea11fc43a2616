/-
  heap's find over this seat's translation. No condition but those that each theorem states.
-/
import Derived.Test.YtngeinmpnjfhfaaHpMark
import Derived.Tactics
import Derived.Defers
import Derived.Recover
import Derived.Laws.Pointers
namespace Go.Proofs.Ytngeinmpnjfhfaa
open Go.Shelf Go.RowKit Go.Lib Go.Sort Hp Go.Maps

theorem find_idle (p q : Addr) (w : World) :
    CallsD Try.prog 40 #[.pointer (some p), .pointer (some q)] .returning w fun e u' w' => e = .returned (.tuple #[]) ∧ u' = .returning ∧ w' = w := by
  refine callsD_of_wpS Try.func40 rfl fun c₀ cs hu => ?_
  apply wpS_seq
  apply wpS_region
  simp [wpOpsS, go_sem, recoverD, hu, Try.ntmps40, Exit.thenS]
  refine wpS_cond (t := false) (by simp [Act.eval, Array.replicate]) ?_
  simp only [Bool.false_eq_true, if_false]
  refine wpS_of_wp (wp_skip ?_)
  cases c₀
  simp_all [bodyPostS, results, Try.results40]

/-- What find answers. -/
def found (m : Tab) (n : Nat) (k : Int) : Nat × Bool := match m k with
  | some i => (i, true)
  | none => (n, false)

set_option maxHeartbeats 4000000 in
set_option maxRecDepth 100000 in
theorem find_c (hb mb n cap n0 : Nat) (k : Int) (c : Value) (p : Option Addr) (D : DataW Unit) (m : Tab) (w : World) (hbox : w.heap[hb]? = some (.cells #[c, .slice p n cap, .map (some mb)] 63 (0, 0)))
    (hown : w.ownsMap (H := Unit) Try.prog 3 (plainElem Try.prog 3) mb n0 D) (hD : Is D m) (hk : W64 k) :
    Calls Try.prog 29 #[.pointer (some ⟨hb, 0, none⟩), .int .i64 k] w fun r w' => r = .returned (.tuple #[.int .i64 (found m n k).1, .bool (found m n k).2]) ∧ Below w.heap.size w w' := by
  have mixed : Try.prog.follows .mixedOrders = true := by kernel_rfl
  have hmf : ∀ (fn : Fn) (first cap : Array Value) (w : World), (Instr.makeFunc fn first cap).run Try.prog w = .ok (.func fn first cap) w := fun _ _ _ _ => rfl
  have hB : Below w.heap.size w ((w.alloc (.cells #[.int .i64 0] 3)).alloc (.cells #[.bool false] 4)) := bA' (bA' (Below.refl _ _) (Nat.le_refl _) _) (by simp) _
  obtain ⟨c0, c1, c2, _⟩ := cell_three ((hB.block hb (Array.getElem?_eq_some_iff.1 hbox).1).trans hbox)
  have hown2 := (hown.alloc (.cells #[.int .i64 0] 3)).alloc (.cells #[.bool false] 4)
  obtain ⟨v, ps, hrun, hv⟩ := hown2.look_ok keyedI Try.underlying61 (zeroI _) (plainElem_int Try.underlying3 (show (Lit.int .i64 0).wf = true by decide)) (keyOf_int_mk Try.underlying3 hk)
  obtain ⟨q, rfl, hq, _⟩ := plainElem_int_inv Try.underlying3 hv
  have hq := congrArg Prod.fst hq
  simp only at hq
  have HB := Lib.hid hB
  clear hown hown2 hB hv
  go_enter_defers Try.func29, Try.ntmps29
  cases hm : m k with
  | some i =>
    obtain ⟨h1, h2⟩ := (hD k).1 i hm
    rw [h2] at hq
    obtain rfl : (i : Int) = q := by simpa using hq
    rw [h1] at hrun
    have hf : found m n k = (i, true) := by unfold found; rw [hm]
    rw [hf]
    go_wp2
    go_big_region_o
    go_wp2
    refine leaves_cons (f := 40) (args := #[.pointer (some ⟨w.heap.size, 0, none⟩), .pointer (some ⟨w.heap.size + 1, 0, none⟩)]) (by simp) (by simp [go_sem]) ?_
    refine (find_idle _ _ _).mono ?_
    rintro e u' w'' ⟨rfl, rfl, rfl⟩
    have hB2 : Below w.heap.size w ((w.alloc (.cells #[.int .i64 i] 3)).alloc (.cells #[.bool true] 4)).drew := (bA' (bA' (Below.refl _ _) (Nat.le_refl _) _) (by simp) _).drew
    simp [Leaves, settle, results, Try.results29, go_sem]
    exact hB2
  | none =>
    have h1 := (hD k).2 hm
    rw [h1] at hrun
    have c1' : ((w.alloc (.cells #[.int .i64 q] 3)).alloc (.cells #[.bool false] 4)).cell? ⟨hb, 1, none⟩ = some (.slice p n cap) := kc' (bA' (bA' (Below.refl _ _) (Nat.le_refl _) _) (by simp) _) (cell_three hbox).2.1
    have hf : found m n k = (n, false) := by unfold found; rw [hm]
    rw [hf]
    go_wp2
    go_big_region_o
    go_wp2
    refine leaves_cons (f := 40) (args := #[.pointer (some ⟨w.heap.size, 0, none⟩), .pointer (some ⟨w.heap.size + 1, 0, none⟩)]) (by simp) (by simp [go_sem]) ?_
    refine (find_idle _ _ _).mono ?_
    rintro e u' w'' ⟨rfl, rfl, rfl⟩
    have hB2 : Below w.heap.size w ((w.alloc (.cells #[.int .i64 n] 3)).alloc (.cells #[.bool false] 4)).drew := (bA' (bA' (Below.refl _ _) (Nat.le_refl _) _) (by simp) _).drew
    simp [Leaves, settle, results, Try.results29, go_sem]
    exact hB2
end Go.Proofs.Ytngeinmpnjfhfaa
