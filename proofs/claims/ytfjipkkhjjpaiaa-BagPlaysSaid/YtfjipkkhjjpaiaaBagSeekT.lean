/-
  Where a thing stands in a bag of items (behind, ahead) over this seat's translation. Conditions: those that each theorem states.
-/
import Derived.Test.YtfjipkkhjjpaiaaBagSeekI
namespace Go.Proofs.Ytfjipkkhjjpaiaa
open Go.Shelf Go.RowKit Go.Lib Go.Sort St

set_option maxHeartbeats 4000000 in
set_option maxRecDepth 1000000 in
theorem behindF_T (b B1 B2 g n cap i : Nat) (x y : It) (W : World) (h1 : W.cell? ⟨B1, 0, none⟩ = some (.pointer (some ⟨b, 0, none⟩))) (h2 : W.cell? ⟨B2, 0, none⟩ = some (.int .i64 x.1)) (h2b : W.cell? ⟨B2, 1, none⟩ = some (.int .i64 x.2)) (h3 : W.cell? ⟨b, 0, none⟩ = some (.func (.func 18) #[] #[])) (h4 : W.cell? ⟨b, 1, none⟩ = some (.slice (some ⟨g, 0, none⟩) n cap))
    (h5 : W.cell? ⟨g, i * 2, none⟩ = some (.int .i64 y.1) ∧ W.cell? ⟨g, i * 2 + 1, none⟩ = some (.int .i64 y.2)) (hi : i < n) :
    Calls Try.prog 58 (#[.int .i64 i] ++ #[.pointer (some ⟨B1, 0, none⟩), .pointer (some ⟨B2, 0, none⟩)]) W fun e w' => e = .returned (.bool (decide (x.1 < y.1))) ∧ ∃ q os', w' = grow (W.drewN q) os' := by
  have mixed : Try.prog.follows .mixedOrders = true := by kernel_rfl
  have hiz : (i : Int) < (n : Int) := by omega
  have eg : ∀ args w, (callFunc 18 args).run Try.prog w = .ok (.enter 18 args) w := enters_of Try.func18 (by kernel_rfl) rfl
  have g1 := cg h1
  have g2 := cg h2
  have g3 := cg h3
  have g4 := cg h4
  have g5 := cg h5.1
  have g5b := cg h5.2
  have g2b := cg h2b
  have K := Lib.hid fun (w : World) => level_g y x w
  clear h1 h2 h3 h4 h5 h2b
  simp only [List.append_toArray, List.cons_append, List.nil_append]
  go_enter Try.func58, Try.ntmps58
  go_wp2_with fail
  go_quiet_grown (first | (go_at_fn 18; refine Calls.grown_of (K.out _)))
  go_wp2
  go_ret
  exact ⟨by simp [cmpI_pos], nq, osq, rfl⟩

set_option maxHeartbeats 4000000 in
set_option maxRecDepth 1000000 in
theorem aheadF_T (b B1 B2 g n cap i : Nat) (x y : It) (W : World) (h1 : W.cell? ⟨B1, 0, none⟩ = some (.pointer (some ⟨b, 0, none⟩))) (h2 : W.cell? ⟨B2, 0, none⟩ = some (.int .i64 x.1)) (h2b : W.cell? ⟨B2, 1, none⟩ = some (.int .i64 x.2)) (h3 : W.cell? ⟨b, 0, none⟩ = some (.func (.func 18) #[] #[])) (h4 : W.cell? ⟨b, 1, none⟩ = some (.slice (some ⟨g, 0, none⟩) n cap))
    (h5 : W.cell? ⟨g, i * 2, none⟩ = some (.int .i64 y.1) ∧ W.cell? ⟨g, i * 2 + 1, none⟩ = some (.int .i64 y.2)) (hi : i < n) :
    Calls Try.prog 60 (#[.int .i64 i] ++ #[.pointer (some ⟨B1, 0, none⟩), .pointer (some ⟨B2, 0, none⟩)]) W fun e w' => e = .returned (.bool (decide (x.1 ≤ y.1))) ∧ ∃ q os', w' = grow (W.drewN q) os' := by
  have mixed : Try.prog.follows .mixedOrders = true := by kernel_rfl
  have hiz : (i : Int) < (n : Int) := by omega
  have eg : ∀ args w, (callFunc 18 args).run Try.prog w = .ok (.enter 18 args) w := enters_of Try.func18 (by kernel_rfl) rfl
  have g1 := cg h1
  have g2 := cg h2
  have g3 := cg h3
  have g4 := cg h4
  have g5 := cg h5.1
  have g5b := cg h5.2
  have g2b := cg h2b
  have K := Lib.hid fun (w : World) => level_g y x w
  clear h1 h2 h3 h4 h5 h2b
  simp only [List.append_toArray, List.cons_append, List.nil_append]
  go_enter Try.func60, Try.ntmps60
  go_wp2_with fail
  go_quiet_grown (first | (go_at_fn 18; refine Calls.grown_of (K.out _)))
  go_wp2
  go_ret
  exact ⟨by simp [cmpI_nneg], nq, osq, rfl⟩

set_option maxHeartbeats 4000000 in
set_option maxRecDepth 1000000 in
theorem behind_T (b n cap : Nat) (p : Option Addr) (xs : Nat → It) (x : It) (w : World) (h3 : w.cell? ⟨b, 0, none⟩ = some (.func (.func 18) #[] #[])) (h4 : w.cell? ⟨b, 1, none⟩ = some (.slice p n cap)) (hn : n ≤ 1000000)
    (h5 : ∀ i, i < n → ∃ g, p = some ⟨g, 0, none⟩ ∧ (w.cell? ⟨g, i * 2, none⟩ = some (.int .i64 (xs i).1) ∧ w.cell? ⟨g, i * 2 + 1, none⟩ = some (.int .i64 (xs i).2))) (hmono : ∀ i j, i ≤ j → j < n → (xs i).1 ≤ (xs j).1) :
    Calls Try.prog 44 #[.pointer (some ⟨b, 0, none⟩), .agg #[.int .i64 x.1, .int .i64 x.2]] w fun e w' => (∃ c : Nat, e = .returned (.int .i64 c) ∧ c ≤ n ∧ (∀ i, i < c → ¬ x.1 < (xs i).1) ∧ (∀ i, c ≤ i → i < n → x.1 < (xs i).1)) ∧ Below w.heap.size w w' := by
  have WB : Below w.heap.size w ((w.alloc (.cells #[.pointer (some ⟨b, 0, none⟩)] 38)).alloc (.cells #[.int .i64 x.1, .int .i64 x.2] 41)) := bA' (bA' (Below.refl _ _) (Nat.le_refl _) _) (by simp) _
  have q1 : ((w.alloc (.cells #[.pointer (some ⟨b, 0, none⟩)] 38)).alloc (.cells #[.int .i64 x.1, .int .i64 x.2] 41)).cell? ⟨w.heap.size, 0, none⟩ = some (.pointer (some ⟨b, 0, none⟩)) := by go_simp
  have q2 : ((w.alloc (.cells #[.pointer (some ⟨b, 0, none⟩)] 38)).alloc (.cells #[.int .i64 x.1, .int .i64 x.2] 41)).cell? ⟨w.heap.size + 1, 0, none⟩ = some (.int .i64 x.1) := by go_simp
  have q2b : ((w.alloc (.cells #[.pointer (some ⟨b, 0, none⟩)] 38)).alloc (.cells #[.int .i64 x.1, .int .i64 x.2] 41)).cell? ⟨w.heap.size + 1, 1, none⟩ = some (.int .i64 x.2) := by go_simp
  have q3 := kc' WB h3
  have q4 := kc' WB h4
  obtain ⟨c, c1, c2, c3⟩ := turn (fun i => decide (x.1 < (xs i).1)) n fun i j hij hj hp => by
    have := hmono i j hij hj
    simp only [decide_eq_true_iff] at hp ⊢
    omega
  have hcnt := turn_count c1 c2 c3
  have KS := Any.sort_Search Try.laysSearch 58 #[.pointer (some ⟨w.heap.size, 0, none⟩), .pointer (some ⟨w.heap.size + 1, 0, none⟩)] n (fun i => decide (x.1 < (xs i).1)) ((w.alloc (.cells #[.pointer (some ⟨b, 0, none⟩)] 38)).alloc (.cells #[.int .i64 x.1, .int .i64 x.2] 41)) (enters_of Try.func58 (by kernel_rfl) rfl) (by omega)
    (fun m os i hi => by
      obtain ⟨g, rfl, h6⟩ := h5 i hi
      exact behindF_T b w.heap.size (w.heap.size + 1) g n cap i x (xs i) _ (cg q1 m os) (cg q2 m os) (cg q2b m os) (cg q3 m os) (cg q4 m os) (⟨cg (kc' WB h6.1) m os, cg (kc' WB h6.2) m os⟩) hi)
    (fun i j hij hj hp => by
      have := hmono i j hij hj
      simp only [decide_eq_true_iff] at hp ⊢
      omega)
  rw [hcnt] at KS
  change Calls Try.prog 54 _ _ _ at KS
  have HC := Lib.hid (show c ≤ n ∧ (∀ i, i < c → ¬ x.1 < (xs i).1) ∧ (∀ i, c ≤ i → i < n → x.1 < (xs i).1) from ⟨c1, fun i hi => by simpa using c2 i hi, fun i i1 i2 => by simpa using c3 i i1 i2⟩)
  have HW := Lib.hid WB
  have HK := Lib.hid KS
  clear c1 c2 c3 hcnt hmono h5 WB KS h3 h4
  obtain ⟨xa, xb⟩ := x
  go_enter Try.func44, Try.ntmps44
  go_wp2_with fail
  refine HK.out.mono ?_
  rintro e w2 ⟨rfl, q, os, rfl⟩
  go_wp2
  go_ret
  exact ⟨⟨c, rfl, HC.out⟩, bT' HW.out (below_grown_sl _ _ q os (Nat.le_refl _)) HW.out.size⟩

set_option maxHeartbeats 4000000 in
set_option maxRecDepth 1000000 in
theorem ahead_T (b n cap : Nat) (p : Option Addr) (xs : Nat → It) (x : It) (w : World) (h3 : w.cell? ⟨b, 0, none⟩ = some (.func (.func 18) #[] #[])) (h4 : w.cell? ⟨b, 1, none⟩ = some (.slice p n cap)) (hn : n ≤ 1000000)
    (h5 : ∀ i, i < n → ∃ g, p = some ⟨g, 0, none⟩ ∧ (w.cell? ⟨g, i * 2, none⟩ = some (.int .i64 (xs i).1) ∧ w.cell? ⟨g, i * 2 + 1, none⟩ = some (.int .i64 (xs i).2))) (hmono : ∀ i j, i ≤ j → j < n → (xs i).1 ≤ (xs j).1) :
    Calls Try.prog 46 #[.pointer (some ⟨b, 0, none⟩), .agg #[.int .i64 x.1, .int .i64 x.2]] w fun e w' => (∃ c : Nat, e = .returned (.int .i64 c) ∧ c ≤ n ∧ (∀ i, i < c → ¬ x.1 ≤ (xs i).1) ∧ (∀ i, c ≤ i → i < n → x.1 ≤ (xs i).1)) ∧ Below w.heap.size w w' := by
  have WB : Below w.heap.size w ((w.alloc (.cells #[.pointer (some ⟨b, 0, none⟩)] 38)).alloc (.cells #[.int .i64 x.1, .int .i64 x.2] 41)) := bA' (bA' (Below.refl _ _) (Nat.le_refl _) _) (by simp) _
  have q1 : ((w.alloc (.cells #[.pointer (some ⟨b, 0, none⟩)] 38)).alloc (.cells #[.int .i64 x.1, .int .i64 x.2] 41)).cell? ⟨w.heap.size, 0, none⟩ = some (.pointer (some ⟨b, 0, none⟩)) := by go_simp
  have q2 : ((w.alloc (.cells #[.pointer (some ⟨b, 0, none⟩)] 38)).alloc (.cells #[.int .i64 x.1, .int .i64 x.2] 41)).cell? ⟨w.heap.size + 1, 0, none⟩ = some (.int .i64 x.1) := by go_simp
  have q2b : ((w.alloc (.cells #[.pointer (some ⟨b, 0, none⟩)] 38)).alloc (.cells #[.int .i64 x.1, .int .i64 x.2] 41)).cell? ⟨w.heap.size + 1, 1, none⟩ = some (.int .i64 x.2) := by go_simp
  have q3 := kc' WB h3
  have q4 := kc' WB h4
  obtain ⟨c, c1, c2, c3⟩ := turn (fun i => decide (x.1 ≤ (xs i).1)) n fun i j hij hj hp => by
    have := hmono i j hij hj
    simp only [decide_eq_true_iff] at hp ⊢
    omega
  have hcnt := turn_count c1 c2 c3
  have KS := Any.sort_Search Try.laysSearch 60 #[.pointer (some ⟨w.heap.size, 0, none⟩), .pointer (some ⟨w.heap.size + 1, 0, none⟩)] n (fun i => decide (x.1 ≤ (xs i).1)) ((w.alloc (.cells #[.pointer (some ⟨b, 0, none⟩)] 38)).alloc (.cells #[.int .i64 x.1, .int .i64 x.2] 41)) (enters_of Try.func60 (by kernel_rfl) rfl) (by omega)
    (fun m os i hi => by
      obtain ⟨g, rfl, h6⟩ := h5 i hi
      exact aheadF_T b w.heap.size (w.heap.size + 1) g n cap i x (xs i) _ (cg q1 m os) (cg q2 m os) (cg q2b m os) (cg q3 m os) (cg q4 m os) (⟨cg (kc' WB h6.1) m os, cg (kc' WB h6.2) m os⟩) hi)
    (fun i j hij hj hp => by
      have := hmono i j hij hj
      simp only [decide_eq_true_iff] at hp ⊢
      omega)
  rw [hcnt] at KS
  change Calls Try.prog 54 _ _ _ at KS
  have HC := Lib.hid (show c ≤ n ∧ (∀ i, i < c → ¬ x.1 ≤ (xs i).1) ∧ (∀ i, c ≤ i → i < n → x.1 ≤ (xs i).1) from ⟨c1, fun i hi => by simpa using c2 i hi, fun i i1 i2 => by simpa using c3 i i1 i2⟩)
  have HW := Lib.hid WB
  have HK := Lib.hid KS
  clear c1 c2 c3 hcnt hmono h5 WB KS h3 h4
  obtain ⟨xa, xb⟩ := x
  go_enter Try.func46, Try.ntmps46
  go_wp2_with fail
  refine HK.out.mono ?_
  rintro e w2 ⟨rfl, q, os, rfl⟩
  go_wp2
  go_ret
  exact ⟨⟨c, rfl, HC.out⟩, bT' HW.out (below_grown_sl _ _ q os (Nat.le_refl _)) HW.out.size⟩
end Go.Proofs.Ytfjipkkhjjpaiaa
