/-
  The contracts of the given package gavotteref01's numbers over this seat's translation, first part: how they lie in memory; Num.Cmp. Conditions: those that each theorem states.
-/
import Derived.Test.YtaicfgimaeojbaaDoorSpanC
namespace Go.Proofs.YtaicfgimaeojbaaDoor
open Go.RowKit
attribute [local go_sem ↓] Go.wp_at_zero Go.wp_at_succ

/-- A slice of ints that is read: its cells hold l. -/
def NumAt (w : World) (v : Value) (l : List Int) : Prop :=
  ∃ (x : Option Addr) (cap : Nat), v = .slice x l.length cap ∧ (l = [] ∨ ∃ b off, x = some ⟨b, off, none⟩ ∧ ∀ i, i < l.length → w.cell? ⟨b, off + i, none⟩ = some (.int .i64 (l.getD i 0)))
theorem NumAt.keep {w w' : World} {v : Value} {l : List Int} (k : NumAt w v l) (h : Below w.heap.size w w') : NumAt w' v l := by
  obtain ⟨x, cap, hv, hx⟩ := k
  refine ⟨x, cap, hv, ?_⟩
  rcases hx with hx | ⟨b, off, hx, hc⟩
  · exact .inl hx
  · exact .inr ⟨b, off, hx, fun i hi => keepc h (hc i hi)⟩

/-- How two digits rows of one length stand to each other, from place k - 1 down. -/
def cmpTo (la lb : List Int) : Nat → Int
  | 0 => 0
  | k + 1 => if la.getD k 0 < lb.getD k 0 then -1 else if lb.getD k 0 < la.getD k 0 then 1 else cmpTo la lb k
def cmpL (la lb : List Int) : Int := if la.length < lb.length then -1 else if lb.length < la.length then 1 else cmpTo la lb la.length

theorem ncmp_len (x y : Option Addr) (n m cap cap' : Nat) (hne : ¬ n = m) (w : World) :
    Calls Tryd.prog 18 #[.slice x n cap, .slice y m cap'] w fun e w' => e = .returned (.int .i64 (if n < m then -1 else 1)) ∧ Below w.heap.size w w' := by
  have h2 : ((n : Int) == (m : Int)) = false := by simp; omega
  by_cases h : n < m
  · rw [if_pos h]
    have h3 : (n : Int) < (m : Int) := by omega
    go_enter Tryd.func18, Tryd.ntmps18
    go_wp2
    go_ret
    exact ⟨rfl, Below.refl _ _⟩
  · rw [if_neg h]
    have h3 : ¬ (n : Int) < (m : Int) := by omega
    go_enter Tryd.func18, Tryd.ntmps18
    go_wp2
    go_ret
    exact ⟨rfl, Below.refl _ _⟩

theorem ncmp_zero (x y : Option Addr) (cap cap' : Nat) (w : World) :
    Calls Tryd.prog 18 #[.slice x 0 cap, .slice y 0 cap'] w fun e w' => e = .returned (.int .i64 0) ∧ Below w.heap.size w w' := by
  go_enter Tryd.func18, Tryd.ntmps18
  go_wp2
  refine wp_loop_rounds 1 ?_
  rw [rounds_succ]
  go_wp2
  go_ret
  exact ⟨rfl, Below.refl _ _⟩

theorem cmpTo_lt {la lb : List Int} {k : Nat} (h : la.getD k 0 < lb.getD k 0) : cmpTo la lb (k + 1) = -1 := by simp only [cmpTo]; rw [if_pos h]
theorem cmpTo_gt {la lb : List Int} {k : Nat} (h : lb.getD k 0 < la.getD k 0) : cmpTo la lb (k + 1) = 1 := by simp only [cmpTo]; rw [if_neg (by omega), if_pos h]
theorem cmpTo_eq {la lb : List Int} {k : Nat} (h : la.getD k 0 = lb.getD k 0) : cmpTo la lb (k + 1) = cmpTo la lb k := by simp only [cmpTo]; rw [if_neg (by omega), if_neg (by omega)]

set_option maxHeartbeats 1000000 in
theorem ncmp_eq (b off b' off' n cap cap' : Nat) (f g : Nat → Int) (C : Nat → Int) (hC0 : C 0 = 0) (hlt : ∀ k, f k < g k → C (k + 1) = -1) (hgt : ∀ k, g k < f k → C (k + 1) = 1) (heq : ∀ k, f k = g k → C (k + 1) = C k) (hn : n ≤ 1000) (w : World)
    (hf : ∀ i, i < n → w.cell? ⟨b, off + i, none⟩ = some (.int .i64 (f i))) (hg : ∀ i, i < n → w.cell? ⟨b', off' + i, none⟩ = some (.int .i64 (g i))) :
    Calls Tryd.prog 18 #[.slice (some ⟨b, off, none⟩) n cap, .slice (some ⟨b', off', none⟩) n cap'] w fun e w' => e = .returned (.int .i64 (C n)) ∧ Below w.heap.size w w' := by
  have HF := Lib.hid hf
  have HG := Lib.hid hg
  have H0 := Lib.hid hC0
  have HL := Lib.hid hlt
  have HR := Lib.hid hgt
  have HE := Lib.hid heq
  clear hf hg hC0 hlt hgt heq
  go_enter Tryd.func18, Tryd.ntmps18
  go_wp2
  go_loopw [5] (fun vi wr => ∃ k : Nat, vi = .int .i64 ((k : Int) - 1) ∧ k ≤ n ∧ C k = C n ∧ Below w.heap.size w wr) (fun vi _ => (intOf vi + 1).toNat)
  case atStart => exact ⟨n, rfl, Nat.le_refl _, rfl, Below.refl _ _⟩
  case round =>
    obtain ⟨k, rfl, hk, hck, hbl⟩ := hrel
    have HCK := Lib.hid hck
    clear hck
    cases k with
    | zero =>
      rw [show ((0 : Nat) : Int) - 1 = -1 from rfl]
      clear hk
      go_wp2
      go_ret
      exact ⟨ret_int (by rw [← HCK.out, H0.out]), hbl⟩
    | succ j =>
      rw [show ((j + 1 : Nat) : Int) - 1 = (j : Int) from by omega]
      have hjn : (j : Int) < (n : Int) := by omega
      have hj0 : (0 : Int) ≤ (j : Int) := by omega
      have c1 := keepc hbl (HF.out j (by omega))
      have c2 := keepc hbl (HG.out j (by omega))
      have hl := HL.out j
      have hr := HR.out j
      have he := HE.out j
      generalize f j = x at *
      generalize g j = y at *
      have HL2 := Lib.hid hl
      have HR2 := Lib.hid hr
      have HE2 := Lib.hid he
      clear hl hr he
      rcases Int.lt_trichotomy x y with h | h | h
      · go_wp2_with fail
        go_quiet (fail)
        go_wp2
        go_ret
        exact ⟨ret_int (by rw [← HCK.out, HL2.out h]), belowN hbl _⟩
      · subst h
        go_wp2_with fail
        go_quiet (fail)
        go_wp2_with fail
        go_quiet (fail)
        go_wp2
        go_roundw
        case rel => exact ⟨j, by simp, by omega, by rw [← HCK.out, HE2.out trivial], by repeat (first | assumption | refine belowN ?_ _)⟩
        case measure => simp [intOf]
      · go_wp2_with fail
        go_quiet (fail)
        go_wp2_with fail
        go_quiet (fail)
        go_wp2
        go_ret
        exact ⟨ret_int (by rw [← HCK.out, HR2.out h]), by repeat (first | assumption | refine belowN ?_ _)⟩

theorem ncmp_c (va vb : Value) (la lb : List Int) (ha : la.length ≤ 1000) (w : World) (na : NumAt w va la) (nb : NumAt w vb lb) :
    Calls Tryd.prog 18 #[va, vb] w fun e w' => e = .returned (.int .i64 (cmpL la lb)) ∧ Below w.heap.size w w' := by
  obtain ⟨x, cap, rfl, hx⟩ := na
  obtain ⟨y, cap', rfl, hy⟩ := nb
  unfold cmpL
  by_cases hl : la.length = lb.length
  · rw [if_neg (by omega), if_neg (by omega)]
    rcases hx with rfl | ⟨b, off, rfl, hc⟩
    · simp only [List.length_nil] at hl ⊢
      rw [← hl]
      exact ncmp_zero x y cap cap' w
    · rcases hy with rfl | ⟨b', off', rfl, hc'⟩
      · simp only [List.length_nil] at hl ⊢
        rw [hl]
        exact ncmp_zero _ y cap cap' w
      · rw [← hl] at hc' ⊢
        exact ncmp_eq b off b' off' la.length cap cap' (fun i => la.getD i 0) (fun i => lb.getD i 0) (cmpTo la lb) rfl (fun _ h => cmpTo_lt h) (fun _ h => cmpTo_gt h) (fun _ h => cmpTo_eq h) ha w hc hc'
  · have := ncmp_len x y la.length lb.length cap cap' hl w
    by_cases h : la.length < lb.length
    · rw [if_pos h] at this ⊢; exact this
    · rw [if_neg h] at this ⊢; rw [if_pos (by omega)]; exact this
end Go.Proofs.YtaicfgimaeojbaaDoor
