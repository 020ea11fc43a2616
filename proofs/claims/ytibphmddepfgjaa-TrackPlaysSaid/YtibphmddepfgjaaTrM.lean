/-
  Mathematics of tracks: rising lists of stamps with numbers; what is put, set, found, gone back on, let go of. No condition but those that each theorem states.
-/
import Derived.Test.YtibphmddepfgjaaMG
namespace Go.Proofs.Ytibphmddepfgjaa.Tr
open Go.RowKit

/-- A stamp: its numerator, its denominator, its count. -/
abbrev Sp := Int × Int × Int
abbrev Sp.v (x : Sp) : Value := stV x.1 x.2.1 x.2.2
abbrev Sp.R (x : Sp) : Bool := sRight x.1 x.2.1 x.2.2
abbrev Sp.I (x : Sp) : Prop := In3 x.1 x.2.1 x.2.2
def cmp (x y : Sp) : Int := sCmp x.1 x.2.1 x.2.2 y.1 y.2.1 y.2.2
/-- What was at a stamp. -/
abbrev En := Sp × Int
def cE (e : En) : List Value := [.int .i64 e.1.1, .int .i64 e.1.2.1, .int .i64 e.1.2.2, .int .i64 e.2]
theorem cE_len (e : En) : (cE e).length = 4 := rfl

theorem cmp_anti (x y : Sp) : cmp x y = - cmp y x := sCmp_anti _ _ _ _ _ _
theorem cmp_in (x y : Sp) : -1 ≤ cmp x y ∧ cmp x y ≤ 1 := sCmp_in _ _ _ _ _ _
theorem cmp_eq {x y : Sp} (hx : x.R = true) (hy : y.R = true) : cmp x y = 0 ↔ x = y := by
  obtain ⟨a, b, c⟩ := x
  obtain ⟨d, e, f⟩ := y
  unfold cmp
  rw [sCmp_zero hx hy]
  simp
theorem cmp_not {x y : Sp} (h : ¬ (x.R = true ∧ y.R = true)) : cmp x y = 0 := sCmp_no h
theorem cmp_right {x y : Sp} (h : cmp x y ≠ 0) : x.R = true ∧ y.R = true := by
  by_cases k : x.R = true ∧ y.R = true
  · exact k
  · exact absurd (cmp_not k) h
theorem cmp_tr {x y z : Sp} (hx : x.R = true) (hy : y.R = true) (hz : z.R = true) (h1 : cmp x y ≤ 0) (h2 : cmp y z ≤ 0) : cmp x z ≤ 0 := sCmp_trans hx hy hz h1 h2
theorem cmp_lt_lt {x y z : Sp} (h1 : cmp x y < 0) (h2 : cmp y z < 0) : cmp x z < 0 := by
  have r1 := cmp_right (x := x) (y := y) (by omega)
  have r2 := cmp_right (x := y) (y := z) (by omega)
  have h3 : cmp x z ≤ 0 := cmp_tr r1.1 r1.2 r2.2 (by omega) (by omega)
  by_cases h : cmp x z = 0
  · have e := (cmp_eq r1.1 r2.2).1 h
    subst e
    have := cmp_anti x y
    omega
  · omega
theorem cmp_le_lt {x y z : Sp} (hx : x.R = true) (hy : y.R = true) (h1 : cmp x y ≤ 0) (h2 : cmp y z < 0) : cmp x z < 0 := by
  by_cases h : cmp x y = 0
  · rw [(cmp_eq hx hy).1 h]; exact h2
  · exact cmp_lt_lt (by omega) h2

/-- Stamps rise, all right, none never. -/
def Rise (L : List En) : Prop := L.Pairwise (fun a b => cmp a.1 b.1 < 0) ∧ ∀ a ∈ L, a.1.R = true ∧ a.1 ≠ (1, 0, 0)
def lessL (L : List En) (s : Sp) : List En := L.filter fun a => decide (cmp a.1 s < 0)
def levL (L : List En) (s : Sp) : List En := L.filter fun a => decide (cmp a.1 s = 0)
def moreL (L : List En) (s : Sp) : List En := L.filter fun a => decide (0 < cmp a.1 s)
theorem Rise.nil : Rise [] := ⟨List.Pairwise.nil, fun _ h => by cases h⟩
theorem Rise.tail {a : En} {L : List En} (h : Rise (a :: L)) : Rise L := ⟨(List.pairwise_cons.1 h.1).2, fun b hb => h.2 b (List.mem_cons_of_mem _ hb)⟩
theorem Rise.sub {L M : List En} (h : Rise L) (hs : M.Sublist L) : Rise M := ⟨h.1.sublist hs, fun a ha => h.2 a (hs.subset ha)⟩
theorem filter_none {L : List En} {p : En → Bool} (h : ∀ a ∈ L, p a = false) : L.filter p = [] := by
  rw [List.filter_eq_nil_iff]
  intro a ha
  rw [h a ha]
  decide
theorem filter_all {L : List En} {p : En → Bool} (h : ∀ a ∈ L, p a = true) : L.filter p = L := by
  rw [List.filter_eq_self]
  exact h
/-- Behind one that is not less than s all are greater. -/
theorem Rise.above {a : En} {L : List En} {s : Sp} (h : Rise (a :: L)) (hs : s.R = true) (ha : 0 ≤ cmp a.1 s) : ∀ b ∈ L, 0 < cmp b.1 s := fun b hb => by
  have h1 := (List.pairwise_cons.1 h.1).1 b hb
  have h2 := cmp_anti a.1 s
  have h3 := cmp_le_lt hs (h.2 a (List.mem_cons_self ..)).1 (by omega) h1
  have h4 := cmp_anti b.1 s
  omega
theorem Rise.parts {L : List En} {s : Sp} (hs : s.R = true) : Rise L → L = lessL L s ++ (levL L s ++ moreL L s) ∧ (levL L s).length ≤ 1 := by
  induction L with
  | nil => exact fun _ => ⟨rfl, Nat.zero_le _⟩
  | cons a L ih =>
    intro h
    obtain ⟨i1, i2⟩ := ih h.tail
    unfold lessL levL moreL at *
    by_cases h1 : cmp a.1 s < 0
    · rw [List.filter_cons_of_pos (by simpa using h1), List.filter_cons_of_neg (by simp; omega), List.filter_cons_of_neg (by simp; omega)]
      exact ⟨by rw [List.cons_append, ← i1], i2⟩
    · have hab := h.above hs (by omega)
      have e1 : L.filter (fun a => decide (cmp a.1 s < 0)) = [] := filter_none fun b hb => decide_eq_false (by have := hab b hb; omega)
      have e2 : L.filter (fun a => decide (cmp a.1 s = 0)) = [] := filter_none fun b hb => decide_eq_false (by have := hab b hb; omega)
      have e3 : L.filter (fun a => decide (0 < cmp a.1 s)) = L := filter_all fun b hb => decide_eq_true (hab b hb)
      by_cases h2 : cmp a.1 s = 0
      · rw [List.filter_cons_of_neg (by simpa using h1), List.filter_cons_of_pos (by simpa using h2), List.filter_cons_of_neg (by simp; omega), e1, e2, e3]
        exact ⟨rfl, Nat.le_refl _⟩
      · rw [List.filter_cons_of_neg (by simpa using h1), List.filter_cons_of_neg (by simpa using h2), List.filter_cons_of_pos (by simp; omega), e1, e2, e3]
        exact ⟨rfl, Nat.zero_le _⟩
theorem levL_eq {L : List En} {s : Sp} (hs : s.R = true) (h : Rise L) : ∀ a ∈ levL L s, a.1 = s := fun a ha => by
  obtain ⟨h1, h2⟩ := List.mem_filter.1 ha
  exact (cmp_eq (h.2 a h1).1 hs).1 (by simpa using h2)

/-- What Put answers. -/
def putE (k : Nat) (L : List En) (s : Sp) : Int := if s.R = true ∧ s ≠ (1, 0, 0) then (if ∀ a, L.getLast? = some a → cmp a.1 s < 0 then (if L.length < k then 0 else 14) else 15) else 1
/-- What Put comes to. -/
def putL (k : Nat) (L : List En) (s : Sp) (x : Int) : List En := if putE k L s = 0 then L ++ [(s, x)] else L
theorem putE_ok {k : Nat} {L : List En} {s : Sp} (h : putE k L s = 0) : (s.R = true ∧ s ≠ (1, 0, 0)) ∧ (∀ a, L.getLast? = some a → cmp a.1 s < 0) ∧ L.length < k := by
  unfold putE at h
  split at h
  · next h1 =>
    split at h
    · next h2 =>
      split at h
      · next h3 => exact ⟨h1, h2, h3⟩
      · exact absurd h (by decide)
    · exact absurd h (by decide)
  · exact absurd h (by decide)
theorem putE_of {k : Nat} {L : List En} {s : Sp} (h1 : s.R = true) (h2 : s ≠ (1, 0, 0)) (h3 : ∀ a, L.getLast? = some a → cmp a.1 s < 0) (h4 : L.length < k) : putE k L s = 0 := by
  unfold putE
  rw [if_pos ⟨h1, h2⟩, if_pos h3, if_pos h4]
theorem Rise.last {L : List En} {s : Sp} (h : Rise L) (hl : ∀ a, L.getLast? = some a → cmp a.1 s < 0) : ∀ a ∈ L, cmp a.1 s < 0 := by
  intro a ha
  rcases List.eq_nil_or_concat L with rfl | ⟨M, b, rfl⟩
  · cases ha
  · rw [List.concat_eq_append] at *
    have hb := hl b (by simp)
    rcases List.mem_append.1 ha with ha | ha
    · exact cmp_lt_lt ((List.pairwise_append.1 h.1).2.2 a ha b (by simp)) hb
    · rw [List.mem_singleton.1 ha]; exact hb
theorem Rise.snoc {L : List En} {s : Sp} {x : Int} (h : Rise L) (h1 : s.R = true) (h2 : s ≠ (1, 0, 0)) (h3 : ∀ a ∈ L, cmp a.1 s < 0) : Rise (L ++ [(s, x)]) := by
  refine ⟨List.pairwise_append.2 ⟨h.1, List.pairwise_singleton _ _, fun a ha b hb => ?_⟩, fun a ha => ?_⟩
  · rw [List.mem_singleton.1 hb]; exact h3 a ha
  · rcases List.mem_append.1 ha with ha | ha
    · exact h.2 a ha
    · rw [List.mem_singleton.1 ha]; exact ⟨h1, h2⟩
theorem Rise.put {k : Nat} {L : List En} {s : Sp} (x : Int) (h : Rise L) : Rise (putL k L s x) := by
  unfold putL
  split
  · next h0 =>
    obtain ⟨⟨h1, h2⟩, h3, _⟩ := putE_ok h0
    exact h.snoc h1 h2 (h.last h3)
  · exact h
theorem putL_len {k : Nat} {L : List En} {s : Sp} {x : Int} (h : L.length ≤ k) : (putL k L s x).length ≤ k := by
  unfold putL
  split
  · next h0 =>
    have := (putE_ok h0).2.2
    rw [List.length_append]
    exact this
  · exact h
/-- Set. -/
def setB (L : List En) (s : Sp) : Bool := s.R && !(levL L s).isEmpty
def setL (L : List En) (s : Sp) (x : Int) : List En := if setB L s = true then lessL L s ++ ((s, x) :: moreL L s) else L
theorem Rise.set {L : List En} {s : Sp} (x : Int) (h : Rise L) : Rise (setL L s x) ∧ (setL L s x).length = L.length := by
  unfold setL
  split
  · next h0 =>
    unfold setB at h0
    simp only [Bool.and_eq_true, Bool.not_eq_true', List.isEmpty_eq_false_iff] at h0
    obtain ⟨hp, hl⟩ := h.parts h0.1
    obtain ⟨a, l2, ha⟩ : ∃ a l, levL L s = a :: l := by
      cases hlev : levL L s with
      | nil => exact absurd hlev h0.2
      | cons a l => exact ⟨a, l, rfl⟩
    have hl2 : l2 = [] := by rw [ha] at hl; simpa using hl
    subst hl2
    have hs : a.1 = s := levL_eq h0.1 h a (by rw [ha]; exact List.mem_cons_self ..)
    rw [ha] at hp
    have hr : Rise (lessL L s ++ ([a] ++ moreL L s)) := hp ▸ h
    refine ⟨⟨?_, fun b hb => ?_⟩, ?_⟩
    · have h1 := List.pairwise_append.1 hr.1
      have h2 := List.pairwise_append.1 h1.2.1
      refine List.pairwise_append.2 ⟨h1.1, List.pairwise_cons.2 ⟨fun b hb => ?_, h2.2.1⟩, fun b hb c hc => ?_⟩
      · have := h2.2.2 a (List.mem_singleton.2 rfl) b hb
        rw [hs] at this
        exact this
      · rcases List.mem_cons.1 hc with rfl | hc
        · have := h1.2.2 b hb a (by simp)
          rw [hs] at this
          exact this
        · exact h1.2.2 b hb c (by simp [hc])
    · rcases List.mem_append.1 hb with hb | hb
      · exact hr.2 b (List.mem_append_left _ hb)
      · rcases List.mem_cons.1 hb with rfl | hb
        · have := hr.2 a (by simp)
          rw [hs] at this
          exact this
        · exact hr.2 b (by simp [hb])
    · have := congrArg List.length hp
      simp only [List.length_append, List.length_cons, List.length_nil] at this ⊢
      omega
  · exact ⟨h, rfl⟩
/-- Back, Free, From. -/
def backL (L : List En) (s : Sp) : List En := if s.R = true then lessL L s ++ levL L s else L
def backX (L : List En) (s : Sp) : List Int := if s.R = true then (moreL L s).reverse.map (·.2) else []
def freeL (L : List En) (s : Sp) : List En := if s.R = true then levL L s ++ moreL L s else L
def freeX (L : List En) (s : Sp) : List Int := if s.R = true then (lessL L s).map (·.2) else []
def fromL (L : List En) (s : Sp) : List En := if s.R = true then levL L s ++ moreL L s else []
theorem back_split {L : List En} {s : Sp} (h : Rise L) (hs : s.R = true) : L = backL L s ++ moreL L s := by
  unfold backL
  rw [if_pos hs, List.append_assoc]
  exact (h.parts hs).1
theorem free_split {L : List En} {s : Sp} (h : Rise L) (hs : s.R = true) : L = lessL L s ++ freeL L s := by
  unfold freeL
  rw [if_pos hs]
  exact (h.parts hs).1
theorem Rise.back {L : List En} {s : Sp} (h : Rise L) : Rise (backL L s) := by
  by_cases hs : s.R = true
  · obtain ⟨M, hM⟩ : ∃ M, backL L s = M := ⟨_, rfl⟩
    obtain ⟨N, hN⟩ : ∃ N, moreL L s = N := ⟨_, rfl⟩
    have := back_split h hs
    rw [hM, hN] at this
    rw [hM]
    exact h.sub (this ▸ List.sublist_append_left M N)
  · unfold backL; rw [if_neg hs]; exact h
theorem Rise.free {L : List En} {s : Sp} (h : Rise L) : Rise (freeL L s) := by
  by_cases hs : s.R = true
  · obtain ⟨M, hM⟩ : ∃ M, freeL L s = M := ⟨_, rfl⟩
    obtain ⟨N, hN⟩ : ∃ N, lessL L s = N := ⟨_, rfl⟩
    have := free_split h hs
    rw [hM, hN] at this
    rw [hM]
    exact h.sub (this ▸ List.sublist_append_right N M)
  · unfold freeL; rw [if_neg hs]; exact h
theorem back_len {L : List En} {s : Sp} : (backL L s).length ≤ L.length := by
  unfold backL lessL levL
  split
  · rw [List.length_append]
    induction L with
    | nil => exact Nat.le_refl _
    | cons a L ih =>
      by_cases h1 : cmp a.1 s < 0
      · rw [List.filter_cons_of_pos (by simpa using h1), List.filter_cons_of_neg (by simp; omega), List.length_cons, List.length_cons]
        omega
      · rw [List.filter_cons_of_neg (by simpa using h1)]
        by_cases h2 : cmp a.1 s = 0
        · rw [List.filter_cons_of_pos (by simpa using h2), List.length_cons, List.length_cons]
          omega
        · rw [List.filter_cons_of_neg (by simpa using h2), List.length_cons]
          omega
  · exact Nat.le_refl _
/-- Put anew, one by one, what was gone back on: all is as it was. -/
theorem again {k : Nat} {M N : List En} {a : En} (h : Rise (M ++ a :: N)) (hk : (M ++ a :: N).length ≤ k) : putE k M a.1 = 0 ∧ putL k M a.1 a.2 = M ++ [a] := by
  have h1 := List.pairwise_append.1 h.1
  have ha := h.2 a (by simp)
  have h0 : putE k M a.1 = 0 := putE_of ha.1 ha.2 (fun b hb => h1.2.2 b (List.mem_of_getLast? hb) a (by simp)) (by rw [List.length_append, List.length_cons] at hk; omega)
  refine ⟨h0, ?_⟩
  unfold putL
  rw [if_pos h0]
end Go.Proofs.Ytibphmddepfgjaa.Tr
