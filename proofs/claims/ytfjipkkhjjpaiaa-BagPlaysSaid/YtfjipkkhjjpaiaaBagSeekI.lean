/-
  Where a thing stands in a bag of ints (behind, ahead) over this seat's translation. Conditions: those that each theorem states.
-/
import Derived.Test.YtfjipkkhjjpaiaaStTopI
import Derived.Test.YtfjipkkhjjpaiaaStTopT
import Derived.Shelf.SlSorted.Search
namespace Go.Proofs.Ytfjipkkhjjpaiaa
open Go.Shelf Go.RowKit Go.Lib Go.Sort St

theorem kc' {W W' : World} {p : Addr} {v : Value} (hb : Below W.heap.size W W') (h : W.cell? p = some v) : W'.cell? p = some v := by
  rw [← h]
  exact hb.cell (World.block_lt_of_cell? _ _ h)
theorem bA' {B : Nat} {a w : World} (h : Below B a w) (hB : B ≤ w.heap.size) (o : Obj) : Below B a (w.alloc o) := h.alloc hB o
theorem bT' {a b c : World} {B : Nat} (h : Below B a b) (k : Below b.heap.size b c) (hB : B ≤ b.heap.size) : Below B a c :=
  ⟨k.os.trans h.os, k.tape.trans h.tape, k.output.trans h.output, Nat.le_trans h.size k.size, fun i hi => (k.block i (by omega)).trans (h.block i hi)⟩
theorem bT2 {a w w' : World} (h : Below a.heap.size a w) (k : Below w.heap.size w w') : Below a.heap.size a w' := bT' h k h.size
theorem cmpI_pos (a b : Int) : (0 < cmpI a b) = (b < a) := by
  unfold cmpI
  by_cases h : a < b
  · simp [h]; omega
  · by_cases h2 : a > b <;> simp [h, h2]
theorem cmpI_nneg (a b : Int) : (0 ≤ cmpI a b) = (b ≤ a) := by
  unfold cmpI
  by_cases h : a < b
  · simp [h]
  · by_cases h2 : a > b <;> simp [h, h2] <;> omega
theorem order_g (a b : Int) (w : World) : Calls Try.prog 11 #[.int .i64 a, .int .i64 b] w fun e w' => e = .returned (.int .i64 (cmpI a b)) ∧ ∃ q os', w' = grow (w.drewN q) os' :=
  (order_c a b w).mono fun e w' ⟨he, hw⟩ => ⟨he, by rw [hw]; exact grow_two _ _ _⟩
theorem level_g (x y : It) (w : World) : Calls Try.prog 18 #[.agg #[.int .i64 x.1, .int .i64 x.2], .agg #[.int .i64 y.1, .int .i64 y.2]] w fun e w' => e = .returned (.int .i64 (cmpI x.1 y.1)) ∧ ∃ q os', w' = grow (w.drewN q) os' :=
  (level_c x y w).mono fun e w' ⟨he, hw⟩ => ⟨he, by rw [hw]; exact grow_two _ _ _⟩
theorem cg {W : World} {a : Addr} {v : Value} (h : W.cell? a = some v) : ∀ n os, (grow (W.drewN n) os).cell? a = some v := fun n os => cell_grown (World.block_lt_of_cell? _ _ h) h n os
/-- Where a rising question turns. -/
theorem turn (p : Nat → Bool) : ∀ n, (∀ a b, a ≤ b → b < n → p a = true → p b = true) → ∃ c, c ≤ n ∧ (∀ i, i < c → p i = false) ∧ (∀ i, c ≤ i → i < n → p i = true)
  | 0, _ => ⟨0, Nat.le_refl _, fun i h => by omega, fun i h1 h2 => by omega⟩
  | n + 1, h => by
    obtain ⟨c, h1, h2, h3⟩ := turn p n fun a b hab hb => h a b hab (by omega)
    by_cases hc : c = n
    · subst hc
      cases hp : p c with
      | true => exact ⟨c, by omega, h2, fun i i1 i2 => by rw [show i = c from by omega]; exact hp⟩
      | false => exact ⟨c + 1, Nat.le_refl _, fun i hi => by
          by_cases e : i = c
          · rw [e]; exact hp
          · exact h2 i (by omega), fun i i1 i2 => by omega⟩
    · exact ⟨c, by omega, h2, fun i i1 i2 => by
        by_cases e : i = n
        · subst e
          exact h c i i1 (Nat.lt_succ_self _) (h3 c (Nat.le_refl _) (by omega))
        · exact h3 i i1 (by omega)⟩
theorem turn_count {p : Nat → Bool} {n c : Nat} (h1 : c ≤ n) (h2 : ∀ i, i < c → p i = false) (h3 : ∀ i, c ≤ i → i < n → p i = true) : (List.range n).countP (fun i => !p i) = c := by
  have hr : ∀ t, t < n → (List.range n)[t]! = t := fun t ht => by rw [getElem!_pos _ t (by simpa using ht)]; simp
  refine Lib.countP_boundary _ (List.range n) c (by simpa using h1) (fun t ht => ?_) (fun t i3 i4 => ?_)
  · rw [hr t (by omega), h2 t ht]; rfl
  · rw [hr t (by simpa using i4), h3 t i3 (by simpa using i4)]; rfl

set_option maxHeartbeats 4000000 in
set_option maxRecDepth 1000000 in
theorem behindF_I (b B1 B2 g n cap i : Nat) (x y : Int) (W : World) (h1 : W.cell? ⟨B1, 0, none⟩ = some (.pointer (some ⟨b, 0, none⟩))) (h2 : W.cell? ⟨B2, 0, none⟩ = some (.int .i64 x)) (h3 : W.cell? ⟨b, 0, none⟩ = some (.func (.func 11) #[] #[])) (h4 : W.cell? ⟨b, 1, none⟩ = some (.slice (some ⟨g, 0, none⟩) n cap))
    (h5 : W.cell? ⟨g, i, none⟩ = some (.int .i64 y)) (hi : i < n) :
    Calls Try.prog 55 (#[.int .i64 i] ++ #[.pointer (some ⟨B1, 0, none⟩), .pointer (some ⟨B2, 0, none⟩)]) W fun e w' => e = .returned (.bool (decide (x < y))) ∧ ∃ q os', w' = grow (W.drewN q) os' := by
  have mixed : Try.prog.follows .mixedOrders = true := by kernel_rfl
  have hiz : (i : Int) < (n : Int) := by omega
  have eg : ∀ args w, (callFunc 11 args).run Try.prog w = .ok (.enter 11 args) w := enters_of Try.func11 (by kernel_rfl) rfl
  have g1 := cg h1
  have g2 := cg h2
  have g3 := cg h3
  have g4 := cg h4
  have g5 := cg h5
  have K := Lib.hid fun (w : World) => order_g y x w
  clear h1 h2 h3 h4 h5
  simp only [List.append_toArray, List.cons_append, List.nil_append]
  go_enter Try.func55, Try.ntmps55
  go_wp2_with fail
  go_quiet_grown (first | (go_at_fn 11; refine Calls.grown_of (K.out _)))
  go_wp2
  go_ret
  exact ⟨by simp [cmpI_pos], nq, osq, rfl⟩

set_option maxHeartbeats 4000000 in
set_option maxRecDepth 1000000 in
theorem aheadF_I (b B1 B2 g n cap i : Nat) (x y : Int) (W : World) (h1 : W.cell? ⟨B1, 0, none⟩ = some (.pointer (some ⟨b, 0, none⟩))) (h2 : W.cell? ⟨B2, 0, none⟩ = some (.int .i64 x)) (h3 : W.cell? ⟨b, 0, none⟩ = some (.func (.func 11) #[] #[])) (h4 : W.cell? ⟨b, 1, none⟩ = some (.slice (some ⟨g, 0, none⟩) n cap))
    (h5 : W.cell? ⟨g, i, none⟩ = some (.int .i64 y)) (hi : i < n) :
    Calls Try.prog 56 (#[.int .i64 i] ++ #[.pointer (some ⟨B1, 0, none⟩), .pointer (some ⟨B2, 0, none⟩)]) W fun e w' => e = .returned (.bool (decide (x ≤ y))) ∧ ∃ q os', w' = grow (W.drewN q) os' := by
  have mixed : Try.prog.follows .mixedOrders = true := by kernel_rfl
  have hiz : (i : Int) < (n : Int) := by omega
  have eg : ∀ args w, (callFunc 11 args).run Try.prog w = .ok (.enter 11 args) w := enters_of Try.func11 (by kernel_rfl) rfl
  have g1 := cg h1
  have g2 := cg h2
  have g3 := cg h3
  have g4 := cg h4
  have g5 := cg h5
  have K := Lib.hid fun (w : World) => order_g y x w
  clear h1 h2 h3 h4 h5
  simp only [List.append_toArray, List.cons_append, List.nil_append]
  go_enter Try.func56, Try.ntmps56
  go_wp2_with fail
  go_quiet_grown (first | (go_at_fn 11; refine Calls.grown_of (K.out _)))
  go_wp2
  go_ret
  exact ⟨by simp [cmpI_nneg], nq, osq, rfl⟩

set_option maxHeartbeats 4000000 in
set_option maxRecDepth 1000000 in
theorem behind_I (b n cap : Nat) (p : Option Addr) (xs : Nat → Int) (x : Int) (w : World) (h3 : w.cell? ⟨b, 0, none⟩ = some (.func (.func 11) #[] #[])) (h4 : w.cell? ⟨b, 1, none⟩ = some (.slice p n cap)) (hn : n ≤ 1000000)
    (h5 : ∀ i, i < n → ∃ g, p = some ⟨g, 0, none⟩ ∧ (w.cell? ⟨g, i, none⟩ = some (.int .i64 (xs i)))) (hmono : ∀ i j, i ≤ j → j < n → (xs i) ≤ (xs j)) :
    Calls Try.prog 40 #[.pointer (some ⟨b, 0, none⟩), .int .i64 x] w fun e w' => (∃ c : Nat, e = .returned (.int .i64 c) ∧ c ≤ n ∧ (∀ i, i < c → ¬ x < (xs i)) ∧ (∀ i, c ≤ i → i < n → x < (xs i))) ∧ Below w.heap.size w w' := by
  have WB : Below w.heap.size w ((w.alloc (.cells #[.pointer (some ⟨b, 0, none⟩)] 25)).alloc (.cells #[.int .i64 x] 3)) := bA' (bA' (Below.refl _ _) (Nat.le_refl _) _) (by simp) _
  have q1 : ((w.alloc (.cells #[.pointer (some ⟨b, 0, none⟩)] 25)).alloc (.cells #[.int .i64 x] 3)).cell? ⟨w.heap.size, 0, none⟩ = some (.pointer (some ⟨b, 0, none⟩)) := by go_simp
  have q2 : ((w.alloc (.cells #[.pointer (some ⟨b, 0, none⟩)] 25)).alloc (.cells #[.int .i64 x] 3)).cell? ⟨w.heap.size + 1, 0, none⟩ = some (.int .i64 x) := by go_simp
  have q3 := kc' WB h3
  have q4 := kc' WB h4
  obtain ⟨c, c1, c2, c3⟩ := turn (fun i => decide (x < (xs i))) n fun i j hij hj hp => by
    have := hmono i j hij hj
    simp only [decide_eq_true_iff] at hp ⊢
    omega
  have hcnt := turn_count c1 c2 c3
  have KS := Any.sort_Search Try.laysSearch 55 #[.pointer (some ⟨w.heap.size, 0, none⟩), .pointer (some ⟨w.heap.size + 1, 0, none⟩)] n (fun i => decide (x < (xs i))) ((w.alloc (.cells #[.pointer (some ⟨b, 0, none⟩)] 25)).alloc (.cells #[.int .i64 x] 3)) (enters_of Try.func55 (by kernel_rfl) rfl) (by omega)
    (fun m os i hi => by
      obtain ⟨g, rfl, h6⟩ := h5 i hi
      exact behindF_I b w.heap.size (w.heap.size + 1) g n cap i x (xs i) _ (cg q1 m os) (cg q2 m os) (cg q3 m os) (cg q4 m os) (cg (kc' WB h6) m os) hi)
    (fun i j hij hj hp => by
      have := hmono i j hij hj
      simp only [decide_eq_true_iff] at hp ⊢
      omega)
  rw [hcnt] at KS
  change Calls Try.prog 54 _ _ _ at KS
  have HC := Lib.hid (show c ≤ n ∧ (∀ i, i < c → ¬ x < (xs i)) ∧ (∀ i, c ≤ i → i < n → x < (xs i)) from ⟨c1, fun i hi => by simpa using c2 i hi, fun i i1 i2 => by simpa using c3 i i1 i2⟩)
  have HW := Lib.hid WB
  have HK := Lib.hid KS
  clear c1 c2 c3 hcnt hmono h5 WB KS h3 h4
  go_enter Try.func40, Try.ntmps40
  go_wp2_with fail
  refine HK.out.mono ?_
  rintro e w2 ⟨rfl, q, os, rfl⟩
  go_wp2
  go_ret
  exact ⟨⟨c, rfl, HC.out⟩, bT' HW.out (below_grown_sl _ _ q os (Nat.le_refl _)) HW.out.size⟩

set_option maxHeartbeats 4000000 in
set_option maxRecDepth 1000000 in
theorem ahead_I (b n cap : Nat) (p : Option Addr) (xs : Nat → Int) (x : Int) (w : World) (h3 : w.cell? ⟨b, 0, none⟩ = some (.func (.func 11) #[] #[])) (h4 : w.cell? ⟨b, 1, none⟩ = some (.slice p n cap)) (hn : n ≤ 1000000)
    (h5 : ∀ i, i < n → ∃ g, p = some ⟨g, 0, none⟩ ∧ (w.cell? ⟨g, i, none⟩ = some (.int .i64 (xs i)))) (hmono : ∀ i j, i ≤ j → j < n → (xs i) ≤ (xs j)) :
    Calls Try.prog 41 #[.pointer (some ⟨b, 0, none⟩), .int .i64 x] w fun e w' => (∃ c : Nat, e = .returned (.int .i64 c) ∧ c ≤ n ∧ (∀ i, i < c → ¬ x ≤ (xs i)) ∧ (∀ i, c ≤ i → i < n → x ≤ (xs i))) ∧ Below w.heap.size w w' := by
  have WB : Below w.heap.size w ((w.alloc (.cells #[.pointer (some ⟨b, 0, none⟩)] 25)).alloc (.cells #[.int .i64 x] 3)) := bA' (bA' (Below.refl _ _) (Nat.le_refl _) _) (by simp) _
  have q1 : ((w.alloc (.cells #[.pointer (some ⟨b, 0, none⟩)] 25)).alloc (.cells #[.int .i64 x] 3)).cell? ⟨w.heap.size, 0, none⟩ = some (.pointer (some ⟨b, 0, none⟩)) := by go_simp
  have q2 : ((w.alloc (.cells #[.pointer (some ⟨b, 0, none⟩)] 25)).alloc (.cells #[.int .i64 x] 3)).cell? ⟨w.heap.size + 1, 0, none⟩ = some (.int .i64 x) := by go_simp
  have q3 := kc' WB h3
  have q4 := kc' WB h4
  obtain ⟨c, c1, c2, c3⟩ := turn (fun i => decide (x ≤ (xs i))) n fun i j hij hj hp => by
    have := hmono i j hij hj
    simp only [decide_eq_true_iff] at hp ⊢
    omega
  have hcnt := turn_count c1 c2 c3
  have KS := Any.sort_Search Try.laysSearch 56 #[.pointer (some ⟨w.heap.size, 0, none⟩), .pointer (some ⟨w.heap.size + 1, 0, none⟩)] n (fun i => decide (x ≤ (xs i))) ((w.alloc (.cells #[.pointer (some ⟨b, 0, none⟩)] 25)).alloc (.cells #[.int .i64 x] 3)) (enters_of Try.func56 (by kernel_rfl) rfl) (by omega)
    (fun m os i hi => by
      obtain ⟨g, rfl, h6⟩ := h5 i hi
      exact aheadF_I b w.heap.size (w.heap.size + 1) g n cap i x (xs i) _ (cg q1 m os) (cg q2 m os) (cg q3 m os) (cg q4 m os) (cg (kc' WB h6) m os) hi)
    (fun i j hij hj hp => by
      have := hmono i j hij hj
      simp only [decide_eq_true_iff] at hp ⊢
      omega)
  rw [hcnt] at KS
  change Calls Try.prog 54 _ _ _ at KS
  have HC := Lib.hid (show c ≤ n ∧ (∀ i, i < c → ¬ x ≤ (xs i)) ∧ (∀ i, c ≤ i → i < n → x ≤ (xs i)) from ⟨c1, fun i hi => by simpa using c2 i hi, fun i i1 i2 => by simpa using c3 i i1 i2⟩)
  have HW := Lib.hid WB
  have HK := Lib.hid KS
  clear c1 c2 c3 hcnt hmono h5 WB KS h3 h4
  go_enter Try.func41, Try.ntmps41
  go_wp2_with fail
  refine HK.out.mono ?_
  rintro e w2 ⟨rfl, q, os, rfl⟩
  go_wp2
  go_ret
  exact ⟨⟨c, rfl, HC.out⟩, bT' HW.out (below_grown_sl _ _ q os (Nat.le_refl _)) HW.out.size⟩
end Go.Proofs.Ytfjipkkhjjpaiaa
