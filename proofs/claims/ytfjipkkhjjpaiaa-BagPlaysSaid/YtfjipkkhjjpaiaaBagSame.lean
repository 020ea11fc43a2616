/-
  The given package gavotteref03's Same over this seat's translation: whether two lists of items are the same. Conditions: those that each theorem states.
-/
import Derived.Test.YtfjipkkhjjpaiaaBagIsT
namespace Go.Proofs.Ytfjipkkhjjpaiaa
open Go.Shelf Go.RowKit Go.Lib Go.Sort St

set_option maxHeartbeats 4000000 in
set_option maxRecDepth 100000 in
theorem rsame_c (xs ys : List It) (pa pb : Option Addr) (ca cb : Nat) (W : World) (hn : xs.length ≤ 1000000)
    (hx : ∀ i (hi : i < xs.length), ∃ g, pa = some ⟨g, 0, none⟩ ∧ W.cell? ⟨g, i * 2, none⟩ = some (.int .i64 xs[i].1) ∧ W.cell? ⟨g, i * 2 + 1, none⟩ = some (.int .i64 xs[i].2))
    (hy : ∀ i (hi : i < ys.length), ∃ g, pb = some ⟨g, 0, none⟩ ∧ W.cell? ⟨g, i * 2, none⟩ = some (.int .i64 ys[i].1) ∧ W.cell? ⟨g, i * 2 + 1, none⟩ = some (.int .i64 ys[i].2)) :
    Calls Try.prog 27 #[.slice pa xs.length ca, .slice pb ys.length cb] W fun e w' => e = .returned (.bool (decide (xs = ys))) ∧ Below W.heap.size W w' := by
  have mixed : Try.prog.follows .mixedOrders = true := by kernel_rfl
  have HX := Lib.hid hx
  have HY := Lib.hid hy
  clear hx hy
  go_enter Try.func27, Try.ntmps27
  by_cases hl : xs.length = ys.length
  · have hl2 : ys.length ≤ xs.length := by omega
    have hl3 : xs.length ≤ ys.length := by omega
    have HL := Lib.hid hl
    have e1 : ((xs.length : Int) != (ys.length : Int)) = false := by simp [hl]
    have e2 : (xs.length != ys.length) = false := by simp [hl]
    clear hl
    go_wp2
    go_loopw [5] (fun v wr => ∃ k : Nat, v = .int .i64 k ∧ k ≤ xs.length ∧ Below W.heap.size W wr ∧ Hid (xs.take k = ys.take k)) (fun v _ => xs.length - (intOf v).toNat)
    case atStart => exact ⟨0, rfl, Nat.zero_le _, Below.refl _ _, rfl⟩
    case round =>
      obtain ⟨k, rfl, hk, hb, HT⟩ := hrel
      by_cases hlt : k < xs.length
      · have hkz : (k : Int) < (xs.length : Int) := by omega
        have hlt2 : k < ys.length := by omega
        have hkz2 : (k : Int) < (ys.length : Int) := by omega
        obtain ⟨ga, rfl, a0, a1⟩ := HX.out k hlt
        obtain ⟨gb, rfl, b0, b1⟩ := HY.out k hlt2
        have a0 := kc' hb a0
        have a1 := kc' hb a1
        have b0 := kc' hb b0
        have b1 := kc' hb b1
        have HB := Lib.hid hb
        have HE := Lib.hid (show (xs[k].1 = ys[k].1 ∧ xs[k].2 = ys[k].2) → xs.take (k + 1) = ys.take (k + 1) from fun h => by
          rw [List.take_add_one, List.take_add_one, HT.out, List.getElem?_eq_getElem hlt, List.getElem?_eq_getElem hlt2, Prod.ext h.1 h.2])
        have HN := Lib.hid (show ¬ (xs[k].1 = ys[k].1 ∧ xs[k].2 = ys[k].2) → xs ≠ ys from fun h e => h (by subst e; exact ⟨rfl, rfl⟩))
        generalize hxa : xs[k].1 = xa at *
        generalize hxb : xs[k].2 = xb at *
        generalize hya : ys[k].1 = ya at *
        generalize hyb : ys[k].2 = yb at *
        clear hxa hxb hya hyb hb
        have hend : ∀ (V : World), Below wr.heap.size wr V → Below W.heap.size W V := fun V h => bT' HB.out h HB.out.size
        by_cases h1 : xa = ya
        · by_cases h2 : xb = yb
          · have HH := Lib.hid (HE.out ⟨h1, h2⟩)
            subst h1 h2
            go_wp2_with fail
            go_region_o
            all_goals go_wp2
            all_goals go_roundw
            all_goals (first
              | (case rel => exact ⟨k + 1, by go_num, by omega, hend _ (Below.refl _ _).drew, HH⟩)
              | (case measure => simp [intOf]; omega))
          · have hne : decide (xs = ys) = false := decide_eq_false (HN.out fun h => h2 h.2)
            subst h1
            go_wp2_with fail
            go_region_o
            all_goals go_wp2
            all_goals go_ret
            all_goals exact ⟨by rw [hne]; rfl, hend _ (Below.refl _ _).drew⟩
        · have hne : decide (xs = ys) = false := decide_eq_false (HN.out fun h => h1 h.1)
          go_wp2_with fail
          go_region_o
          all_goals go_wp2
          all_goals go_ret
          all_goals exact ⟨by rw [hne]; rfl, hend _ (Below.refl _ _).drew⟩
      · have heq : decide (xs = ys) = true := decide_eq_true (by
          have h := HT.out
          rwa [List.take_of_length_le (by omega), List.take_of_length_le (by omega)] at h)
        go_wp2
        go_ret
        exact ⟨by rw [heq]; rfl, hb⟩
  · have e1 : ((xs.length : Int) != (ys.length : Int)) = true := by simp; omega
    have e2 : (xs.length != ys.length) = true := by simpa using hl
    have hne : decide (xs = ys) = false := decide_eq_false fun e => hl (by rw [e])
    rw [hne]
    go_wp2
    go_ret
    exact ⟨rfl, Below.refl _ _⟩
end Go.Proofs.Ytfjipkkhjjpaiaa
