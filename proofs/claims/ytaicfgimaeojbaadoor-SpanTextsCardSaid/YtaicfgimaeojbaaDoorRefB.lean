/-
  The contracts of the given package gavotteref01's numbers over this seat's translation, second part: trim, From. Conditions: those that each theorem states.
-/
import Derived.Test.YtaicfgimaeojbaaDoorRefA
namespace Go.Proofs.YtaicfgimaeojbaaDoor
open Go.RowKit
attribute [local go_sem ↓] Go.wp_at_zero Go.wp_at_succ

/-- A row without the noughts on top. -/
def trimL (l : List Int) : List Int := (l.reverse.dropWhile (· == 0)).reverse

theorem trimL_nil : trimL [] = [] := rfl
theorem trimL_zero (l : List Int) : trimL (l ++ [0]) = trimL l := by simp [trimL]
theorem trimL_ne (l : List Int) (d : Int) (h : ¬ d = 0) : trimL (l ++ [d]) = l ++ [d] := by simp [trimL, h]

def lenOf : Value → Nat | .slice _ n _ => n | _ => 0

theorem take_last (l : List Int) (k : Nat) (h : k < l.length) : l.take (k + 1) = l.take k ++ [l.getD k 0] := by
  rw [List.take_succ_eq_append_getElem h]
  simp [List.getD, List.getElem?_eq_getElem h]

theorem trim_len (l : List Int) (n : Nat) : (trimL (l.take n)).length ≤ l.length := by
  have h : (trimL (l.take n)).length ≤ (l.take n).length := by
    unfold trimL
    rw [List.length_reverse]
    have := (List.dropWhile_sublist (l := (l.take n).reverse) (· == 0)).length_le
    rw [List.length_reverse] at this
    exact this
  have := List.length_take_le n l
  have h2 : (l.take n).length ≤ l.length := by rw [List.length_take]; omega
  omega

set_option maxHeartbeats 1000000 in
theorem trim_p (b off cap : Nat) (l : List Int) (hl : l.length ≤ 1000) (hcap : l.length ≤ cap) (w : World) (hc : ∀ i, i < l.length → w.cell? ⟨b, off + i, none⟩ = some (.int .i64 (l.getD i 0))) :
    Calls Tryd.prog 36 #[.slice (some ⟨b, off, none⟩) l.length cap] w fun e w' => e = .returned (.slice (some ⟨b, off, none⟩) (trimL l).length cap) ∧ w = w' := by
  have HC := Lib.hid hc
  clear hc
  go_enter Tryd.func36, Tryd.ntmps36
  go_wp2
  go_loop [0] (fun vs => ∃ k : Nat, vs = .slice (some ⟨b, off, none⟩) k cap ∧ k ≤ l.length ∧ trimL (l.take k) = trimL l) (fun vs => lenOf vs)
  case atStart => exact ⟨l.length, rfl, Nat.le_refl _, by rw [List.take_length]⟩
  case round =>
    obtain ⟨k, rfl, hk, ht⟩ := hrel
    have HT := Lib.hid ht
    clear ht
    cases k with
    | zero =>
      have e : trimL l = [] := by rw [← HT.out]; simp [trimL]
      have E := Lib.hid e
      clear e
      go_wp2
      go_ret
      exact ⟨by rw [E.out]; rfl, rfl⟩
    | succ j =>
      have c1 := HC.out j (by omega)
      by_cases h : l.getD j 0 = 0
      · have e : trimL (l.take j) = trimL l := by rw [← HT.out, take_last l j (by omega), h, trimL_zero]
        have E := Lib.hid e
        rw [h] at c1
        clear e h
        go_wp2
        go_round
        case rel => exact ⟨j, rfl, by omega, E.out⟩
        case measure => simp [lenOf]
      · have e : (trimL l).length = j + 1 := by
          rw [← HT.out, take_last l j (by omega), trimL_ne _ _ h, ← take_last l j (by omega), List.length_take]
          omega
        have E := Lib.hid e
        have h2 : (l.getD j 0 == 0) = false := by simpa using h
        clear e h
        generalize l.getD j 0 = d at c1 h2
        go_wp2
        go_ret
        exact ⟨by rw [E.out]; rfl, rfl⟩

theorem trim_c (v : Value) (l : List Int) (hl : l.length ≤ 1000) (x : Option Addr) (cap : Nat) (hcap : l.length ≤ cap) (hv : v = .slice x l.length cap) (w : World) (hx : l = [] ∨ ∃ b off, x = some ⟨b, off, none⟩ ∧ ∀ i, i < l.length → w.cell? ⟨b, off + i, none⟩ = some (.int .i64 (l.getD i 0))) :
    Calls Tryd.prog 36 #[v] w fun e w' => e = .returned (.slice x (trimL l).length cap) ∧ w = w' := by
  subst hv
  rcases hx with rfl | ⟨b, off, rfl, hc⟩
  · go_enter Tryd.func36, Tryd.ntmps36
    go_wp2
    refine wp_loop_rounds 1 ?_
    rw [rounds_succ]
    go_wp2
    go_ret
    exact ⟨rfl, rfl⟩
  · exact trim_p b off cap l hl hcap w hc
end Go.Proofs.YtaicfgimaeojbaaDoor
