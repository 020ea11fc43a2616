/-
  gavottelaw04's order, plain, and gavotteref04's Less over this seat's translation: how two entries stand to each other. No condition but those that each theorem states.
-/
import Derived.Test.YtngeinmpnjfhfaaHpA
namespace Go.Proofs.Ytngeinmpnjfhfaa
open Go.Shelf Go.RowKit Go.Lib Go.Sort Hp

theorem setCell_grow (w : World) (os : Array Obj) (a : Addr) (v : Value) (h : w.heap.size ≤ a.block) : ∃ os', (grow w os).setCell a v = grow w os' := by
  obtain ⟨b, o, s⟩ := a
  obtain ⟨d, rfl⟩ : ∃ d, b = w.heap.size + d := ⟨b - w.heap.size, by simp only at h; omega⟩
  have : ∀ f : Obj → Obj, (w.heap ++ os).modify (w.heap.size + d) f = w.heap ++ os.modify d f := by
    intro f
    apply Array.ext_getElem?
    intro i
    by_cases hi : i < w.heap.size
    · rw [Array.getElem?_modify, if_neg (by omega), Array.getElem?_append_left hi, Array.getElem?_append_left hi]
    · rw [Array.getElem?_modify, Array.getElem?_append_right (by omega), Array.getElem?_append_right (by omega), Array.getElem?_modify]
      by_cases e : w.heap.size + d = i
      · subst e
        simp
      · rw [if_neg e, if_neg (by omega)]
  simp only [World.setCell, grow, this]
  exact ⟨_, rfl⟩
/-- How two entries stand to each other. -/
def cmpE (a b : It) : Int := if ltE a b = true then -1 else if ltE b a = true then 1 else 0
theorem cmpE_lt (a b : It) : decide (cmpE a b < 0) = ltE a b := by
  unfold cmpE
  cases h : ltE a b
  · cases h2 : ltE b a <;> rfl
  · rfl
theorem cmpE_ge (a b : It) : decide (cmpE a b ≥ 0) = !ltE a b := by
  unfold cmpE
  cases h : ltE a b
  · cases h2 : ltE b a <;> rfl
  · rfl
theorem grow_two (w : World) (o o' : Obj) : ∃ q os', (w.alloc o).alloc o' = grow (w.drewN q) os' := ⟨0, #[o] ++ #[o'], by rw [alloc_eq_grow, alloc_eq_grow, grow_grow]; rfl⟩

set_option maxHeartbeats 1000000 in
theorem less_g (x y : It) (w : World) : Calls Try.prog 28 #[.agg #[.int .i64 x.1, .int .i64 x.2], .agg #[.int .i64 y.1, .int .i64 y.2]] w fun e w' =>
    e = .returned (.bool (ltE x y)) ∧ ∃ q os', w' = grow (w.drewN q) os' := by
  obtain ⟨k, b⟩ := x
  obtain ⟨l, c⟩ := y
  have q0 : ((w.alloc (.cells #[.int .i64 k, .int .i64 b] 44)).alloc (.cells #[.int .i64 l, .int .i64 c] 44)).cell? ⟨w.heap.size, 0, none⟩ = some (.int .i64 k) := by go_simp
  have q1 : ((w.alloc (.cells #[.int .i64 k, .int .i64 b] 44)).alloc (.cells #[.int .i64 l, .int .i64 c] 44)).cell? ⟨w.heap.size, 1, none⟩ = some (.int .i64 b) := by go_simp
  have q2 : ((w.alloc (.cells #[.int .i64 k, .int .i64 b] 44)).alloc (.cells #[.int .i64 l, .int .i64 c] 44)).cell? ⟨w.heap.size + 1, 0, none⟩ = some (.int .i64 l) := by go_simp
  have q3 : ((w.alloc (.cells #[.int .i64 k, .int .i64 b] 44)).alloc (.cells #[.int .i64 l, .int .i64 c] 44)).cell? ⟨w.heap.size + 1, 1, none⟩ = some (.int .i64 c) := by go_simp
  have HG := Lib.hid (grow_two w (.cells #[.int .i64 k, .int .i64 b] 44) (.cells #[.int .i64 l, .int .i64 c] 44))
  dsimp only
  go_enter Try.func28, Try.ntmps28
  by_cases h : b = c
  · subst h
    have h1 : (b == b) = true := by rw [beq_iff_eq]
    go_wp2
    go_ret
    refine ⟨?_, HG.out⟩
    simp [ltE]
  · have h1 : (b == c) = false := by rw [beq_eq_false_iff_ne]; exact h
    go_wp2
    go_ret
    refine ⟨?_, HG.out⟩
    simp [ltE, h]

set_option maxHeartbeats 1000000 in
theorem plain_g (x : It) (w : World) : Calls Try.prog 22 #[.agg #[.int .i64 x.1, .int .i64 x.2]] w fun e w' =>
    e = .returned (.agg #[.int .i64 x.1, .int .i64 x.2]) ∧ ∃ q os', w' = grow (w.drewN q) os' := by
  obtain ⟨k, b⟩ := x
  have q0 : ((w.alloc (.cells #[.int .i64 k, .int .i64 b] 33)).alloc (.cells #[.int .i64 0, .int .i64 0] 44)).cell? ⟨w.heap.size, 0, none⟩ = some (.int .i64 k) := by go_simp
  have q1 : ((w.alloc (.cells #[.int .i64 k, .int .i64 b] 33)).alloc (.cells #[.int .i64 0, .int .i64 0] 44)).cell? ⟨w.heap.size, 1, none⟩ = some (.int .i64 b) := by go_simp
  dsimp only
  go_enter Try.func22, Try.ntmps22
  go_wp2
  refine bodyPost_ret (v := .agg #[.int .i64 k, .int .i64 b]) (by simp [results, Try.results22, go_sem]) rfl ⟨rfl, ?_⟩
  exact grow_two _ _ _

set_option maxHeartbeats 1000000 in
theorem order_g (x y : It) (w : World) : Calls Try.prog 10 #[.agg #[.int .i64 x.1, .int .i64 x.2], .agg #[.int .i64 y.1, .int .i64 y.2]] w fun e w' =>
    e = .returned (.int .i64 (cmpE x y)) ∧ ∃ q os', w' = grow (w.drewN q) os' := by
  have mixed : Try.prog.follows .mixedOrders = true := by kernel_rfl
  have eg1 : ∀ args w, (callFunc 22 args).run Try.prog w = .ok (.enter 22 args) w := enters_of Try.func22 (by kernel_rfl) rfl
  have eg2 : ∀ args w, (callFunc 28 args).run Try.prog w = .ok (.enter 28 args) w := enters_of Try.func28 (by kernel_rfl) rfl
  have KL := Lib.hid fun (x y : It) (w : World) => less_g x y w
  have KP := Lib.hid fun (x : It) (w : World) => plain_g x w
  obtain ⟨k, b⟩ := x
  obtain ⟨l, c⟩ := y
  dsimp only
  have p0 : ((w.alloc (.cells #[.int .i64 k, .int .i64 b] 33)).alloc (.cells #[.int .i64 l, .int .i64 c] 33)).cell? ⟨w.heap.size, 0, none⟩ = some (.int .i64 k) := by go_simp
  have p1 : ((w.alloc (.cells #[.int .i64 k, .int .i64 b] 33)).alloc (.cells #[.int .i64 l, .int .i64 c] 33)).cell? ⟨w.heap.size, 1, none⟩ = some (.int .i64 b) := by go_simp
  have p2 : ((w.alloc (.cells #[.int .i64 k, .int .i64 b] 33)).alloc (.cells #[.int .i64 l, .int .i64 c] 33)).cell? ⟨w.heap.size + 1, 0, none⟩ = some (.int .i64 l) := by go_simp
  have p3 : ((w.alloc (.cells #[.int .i64 k, .int .i64 b] 33)).alloc (.cells #[.int .i64 l, .int .i64 c] 33)).cell? ⟨w.heap.size + 1, 1, none⟩ = some (.int .i64 c) := by go_simp
  have HW : Hid (∃ q os', (w.alloc (.cells #[.int .i64 k, .int .i64 b] 33)).alloc (.cells #[.int .i64 l, .int .i64 c] 33) = grow (w.drewN q) os') := Lib.hid (grow_two _ _ _)
  go_enter Try.func10, Try.ntmps10
  go_wp2_with fail
  generalize (w.alloc (.cells #[.int .i64 k, .int .i64 b] 33)).alloc (.cells #[.int .i64 l, .int .i64 c] 33) = W0 at *
  have g0 := cg p0
  have g1 := cg p1
  have g2 := cg p2
  have g3 := cg p3
  go_quiet_grown (first | (go_at_fn 22; first | exact Calls.grown_of (KP.out (k, b) _) | exact Calls.grown_of (KP.out (l, c) _)) | (go_at_fn 28; exact Calls.grown_of (KL.out (k, b) (l, c) _)))
  clear g0 g1 g2 g3
  have p0 := cg p0 nq osq
  have p1 := cg p1 nq osq
  have p2 := cg p2 nq osq
  have p3 := cg p3 nq osq
  have HW : Hid (∃ q os', grow (W0.drewN nq) osq = grow (w.drewN q) os') := Lib.hid (by
    obtain ⟨q, os, rfl⟩ := HW.out
    exact ⟨q + nq, os ++ osq, by show grow (grow ((w.drewN q).drewN nq) os) osq = _; rw [grow_grow, World.drewN_drewN]⟩)
  cases h : ltE (k, b) (l, c)
  · go_wp2_with fail
    generalize grow (W0.drewN nq) osq = W1 at *
    have g0 := cg p0
    have g1 := cg p1
    have g2 := cg p2
    have g3 := cg p3
    go_quiet_grown (first | (go_at_fn 22; first | exact Calls.grown_of (KP.out (k, b) _) | exact Calls.grown_of (KP.out (l, c) _)) | (go_at_fn 28; exact Calls.grown_of (KL.out (l, c) (k, b) _)))
    have HW : Hid (∃ q os', grow (W1.drewN nq) osq = grow (w.drewN q) os') := Lib.hid (by
      obtain ⟨q, os, rfl⟩ := HW.out
      exact ⟨q + nq, os ++ osq, by show grow (grow ((w.drewN q).drewN nq) os) osq = _; rw [grow_grow, World.drewN_drewN]⟩)
    cases h2 : ltE (l, c) (k, b)
    · go_wp2
      go_ret
      exact ⟨by simp [cmpE, h, h2], HW.out⟩
    · go_wp2
      go_ret
      exact ⟨by simp [cmpE, h, h2], HW.out⟩
  · go_wp2
    go_ret
    exact ⟨by simp [cmpE, h], HW.out⟩
end Go.Proofs.Ytngeinmpnjfhfaa
