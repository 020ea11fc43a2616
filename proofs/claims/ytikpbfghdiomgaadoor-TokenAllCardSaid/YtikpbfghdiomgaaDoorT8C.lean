/-
  Rows of words in memory; the given package gavotteref08's Same over this seat's translation. Conditions: those that each theorem states.
-/
import Derived.Test.YtikpbfghdiomgaaDoorT8H
import Derived.BigQuiet
import Derived.Lib.SlicesS
namespace Go.Proofs.YtikpbfghdiomgaaDoor
open Go.RowKit Go.Lib Tk
attribute [local go_sem] Oper.semAt_some

/-- A list of words in memory, cell by cell. -/
abbrev FlatW (W' : World) (p : Option Addr) (L : List Tk.W) : Prop := L = [] ∨ ∃ g off, p = some ⟨g, off, none⟩ ∧ ∀ j u, (L.flatMap cW)[j]? = some u → W'.cell? ⟨g, off + j, none⟩ = some u
theorem keepc8 {W W' : World} {a : Addr} {u : Value} (hb : Below W.heap.size W W') (h : W.cell? a = some u) : W'.cell? a = some u := by
  have hl : a.block < W.heap.size := by
    unfold World.cell? at h
    rcases Nat.lt_or_ge a.block W.heap.size with k | k
    · exact k
    · rw [Array.getElem?_eq_none k] at h
      cases h
  unfold World.cell? at h ⊢
  rw [hb.block _ hl]
  exact h
theorem FlatW.keep {W W' : World} {p : Option Addr} {L : List Tk.W} (h : FlatW W p L) (hb : Below W.heap.size W W') : FlatW W' p L := by
  rcases h with h | ⟨g, off, e, h⟩
  · exact .inl h
  · exact .inr ⟨g, off, e, fun j u hu => keepc8 hb (h j u hu)⟩
theorem cW_len (u : Tk.W) : (cW u).length = 4 := rfl
theorem flatW_len : ∀ L : List Tk.W, (L.flatMap cW).length = L.length * 4
  | [] => rfl
  | a :: L => by rw [List.flatMap_cons, List.length_append, cW_len, flatW_len L, List.length_cons]; omega
theorem flatW_at : ∀ {L : List Tk.W} {i : Nat} {u : Tk.W} {j : Nat} {x : Value}, L[i]? = some u → (cW u)[j]? = some x → (L.flatMap cW)[i * 4 + j]? = some x
  | [], i, u, j, x, h, _ => by simp at h
  | a :: L, 0, u, j, x, h, hx => by
    obtain rfl : a = u := by simpa using h
    have hj : j < (cW a).length := (List.getElem?_eq_some_iff.1 hx).1
    rw [List.flatMap_cons, Nat.zero_mul, Nat.zero_add, List.getElem?_append_left hj]
    exact hx
  | a :: L, i + 1, u, j, x, h, hx => by
    have ih := flatW_at (L := L) (i := i) (u := u) (j := j) (x := x) (by simpa using h) hx
    rw [List.flatMap_cons, List.getElem?_append_right (by rw [cW_len]; omega), cW_len, show (i + 1) * 4 + j - 4 = i * 4 + j from by omega]
    exact ih
theorem FlatW.in {W' : World} {p : Option Addr} {L : List Tk.W} (h : FlatW W' p L) {i : Nat} {u : Tk.W} (hi : L[i]? = some u) : ∃ g off, p = some ⟨g, off, none⟩ ∧ W'.cell? ⟨g, off + i * 4, none⟩ = some (.int .i64 (u.kind : Int)) ∧ W'.cell? ⟨g, off + i * 4 + 1, none⟩ = some (.string ⟨u.s.toArray⟩) ∧ W'.cell? ⟨g, off + i * 4 + 2, none⟩ = some (.int .i64 (u.n : Int)) ∧ W'.cell? ⟨g, off + i * 4 + 3, none⟩ = some (.int .i64 (u.p : Int)) := by
  rcases h with rfl | ⟨g, off, hp, h⟩
  · simp at hi
  · exact ⟨g, off, hp, h (i * 4 + 0) _ (flatW_at hi (j := 0) rfl), by rw [Nat.add_assoc]; exact h (i * 4 + 1) _ (flatW_at hi (j := 1) rfl), by rw [Nat.add_assoc]; exact h (i * 4 + 2) _ (flatW_at hi (j := 2) rfl), by rw [Nat.add_assoc]; exact h (i * 4 + 3) _ (flatW_at hi (j := 3) rfl)⟩
theorem add8 (g off m : Nat) : (⟨g, off, none⟩ : Addr).add m = ⟨g, off + m, none⟩ := by
  unfold Addr.add
  by_cases h : m = 0 <;> simp [h]
theorem rowW_form {t : TypeId} {W' : World} {B : Nat} {v : Value} {L : List Tk.W} (h : W'.ownsRow B t 4 v L.length (L.flatMap cW)) : ∃ p cap, v = .slice p L.length cap ∧ FlatW W' p L := by
  rcases h.2 with ⟨e, e2⟩ | ⟨g, cap, cur, e, hB, hg, rest⟩
  · refine ⟨none, 0, ?_, .inl ?_⟩
    · rw [e]
      congr 1
      first | exact e2.symm | omega
    · have h1 := h.1
      have : L.length = 0 := by first | exact e2 | omega
      exact List.length_eq_zero_iff.1 this
  · refine ⟨some ⟨g, 0, none⟩, cap, e, ?_⟩
    by_cases h0 : L = []
    · exact .inl h0
    · refine .inr ⟨g, 0, rfl, fun j u hu => ?_⟩
      have hc := h.cells (g := g) (by rw [e]; rfl) j u hu
      rw [add8] at hc
      exact hc
theorem w_eq {a b : Tk.W} (h1 : (a.kind : Int) = b.kind) (h2 : (⟨a.s.toArray⟩ : ByteArray) = ⟨b.s.toArray⟩) (h3 : (a.n : Int) = b.n) (h4 : (a.p : Int) = b.p) : a = b := by
  obtain ⟨ak, al, an, ap⟩ := a
  obtain ⟨bk, bl, bn, bp⟩ := b
  simp only [ByteArray.mk.injEq] at h1 h2 h3 h4
  have h2' : al = bl := by simpa using h2
  have h1' : ak = bk := by omega
  have h3' : an = bn := by omega
  have h4' : ap = bp := by omega
  rw [h1', h2', h3', h4']

set_option maxHeartbeats 8000000 in
set_option maxRecDepth 100000 in
theorem rsame8_c (xs ys : List Tk.W) (pa pb : Option Addr) (ca cb : Nat) (W : World) (hn : xs.length ≤ 1000000) (hx : FlatW W pa xs) (hy : FlatW W pb ys) :
    Calls Tryd.prog 11 #[.slice pa xs.length ca, .slice pb ys.length cb] W fun e w' => e = .returned (.bool (decide (xs = ys))) ∧ Below W.heap.size W w' := by
  have mixed : Tryd.prog.follows .mixedOrders = true := by kernel_rfl
  have HX := Lib.hid hx
  have HY := Lib.hid hy
  clear hx hy
  go_enter Tryd.func11, Tryd.ntmps11
  by_cases hl : xs.length = ys.length
  · have hl2 : ys.length ≤ xs.length := by omega
    have hl3 : xs.length ≤ ys.length := by omega
    have HL := Lib.hid hl
    have e1 : ((xs.length : Int) != (ys.length : Int)) = false := by simp [hl]
    have e2 : (xs.length != ys.length) = false := by simp [hl]
    clear hl
    go_wp2
    go_loopw [5] (fun v wr => ∃ k : Nat, v = .int .i64 k ∧ k ≤ xs.length ∧ Hid (Below W.heap.size W wr ∧ xs.take k = ys.take k)) (fun v _ => xs.length - (intOf v).toNat)
    case atStart => exact ⟨0, rfl, Nat.zero_le _, Lib.hid ⟨Below.refl _ _, rfl⟩⟩
    case round =>
      obtain ⟨k, rfl, hk, HB⟩ := hrel
      by_cases hlt : k < xs.length
      · have hkz : (k : Int) < (xs.length : Int) := by omega
        have hk0 : (0 : Int) ≤ (k : Int) := by omega
        have hlt2 : k < ys.length := by omega
        have hkz2 : (k : Int) < (ys.length : Int) := by omega
        have hri : IntKind.i64.wrap ((k : Int) + 1) = ((k + 1 : Nat) : Int) := by rw [IntKind.wrap_i64] <;> omega
        obtain ⟨ga, oa, rfl, a0, a1, a2, a3⟩ := (HX.out.keep HB.out.1).in (List.getElem?_eq_getElem hlt)
        obtain ⟨gb, ob, rfl, b0, b1, b2, b3⟩ := (HY.out.keep HB.out.1).in (List.getElem?_eq_getElem hlt2)
        have HE := Lib.hid (show xs[k] = ys[k] → xs.take (k + 1) = ys.take (k + 1) from fun h => by
          rw [List.take_add_one, List.take_add_one, HB.out.2, List.getElem?_eq_getElem hlt, List.getElem?_eq_getElem hlt2, h])
        have HN := Lib.hid (show xs[k] ≠ ys[k] → decide (xs = ys) = false from fun h => decide_eq_false fun e => h (by subst e; rfl))
        have HQ := Lib.hid (show ∀ (a b : Tk.W), xs[k] = a → ys[k] = b → (a.kind : Int) = b.kind → (⟨a.s.toArray⟩ : ByteArray) = ⟨b.s.toArray⟩ → (a.n : Int) = b.n → (a.p : Int) = b.p → xs[k] = ys[k] from fun a b e f h1 h2 h3 h4 => by rw [e, f]; exact w_eq h1 h2 h3 h4)
        obtain ⟨u, hu⟩ : ∃ u, xs[k] = u := ⟨_, rfl⟩
        obtain ⟨t, ht⟩ : ∃ t, ys[k] = t := ⟨_, rfl⟩
        rw [hu] at a0 a1 a2 a3
        rw [ht] at b0 b1 b2 b3
        have HU := Lib.hid (And.intro hu ht)
        clear hu ht
        obtain ⟨uk, huk⟩ : ∃ z : Int, (u.kind : Int) = z := ⟨_, rfl⟩
        obtain ⟨us, hus⟩ : ∃ z : ByteArray, (⟨u.s.toArray⟩ : ByteArray) = z := ⟨_, rfl⟩
        obtain ⟨un, hun⟩ : ∃ z : Int, (u.n : Int) = z := ⟨_, rfl⟩
        obtain ⟨up, hup⟩ : ∃ z : Int, (u.p : Int) = z := ⟨_, rfl⟩
        obtain ⟨tk, htk⟩ : ∃ z : Int, (t.kind : Int) = z := ⟨_, rfl⟩
        obtain ⟨ts, hts⟩ : ∃ z : ByteArray, (⟨t.s.toArray⟩ : ByteArray) = z := ⟨_, rfl⟩
        obtain ⟨tn, htn⟩ : ∃ z : Int, (t.n : Int) = z := ⟨_, rfl⟩
        obtain ⟨tp, htp⟩ : ∃ z : Int, (t.p : Int) = z := ⟨_, rfl⟩
        have HV := Lib.hid (And.intro huk (And.intro hus (And.intro hun (And.intro hup (And.intro htk (And.intro hts (And.intro htn htp)))))))
        rw [huk] at a0
        rw [hus] at a1
        rw [hun] at a2
        rw [hup] at a3
        rw [htk] at b0
        rw [hts] at b1
        rw [htn] at b2
        rw [htp] at b3
        clear huk hus hun hup htk hts htn htp
        by_cases h1 : uk = tk
        · by_cases h2 : us = ts
          · by_cases h3 : un = tn
            · by_cases h4 : up = tp
              · have HH := Lib.hid (HE.out (HQ.out u t HU.out.1 HU.out.2 (by obtain ⟨g1, g2, g3, g4, g5, g6, g7, g8⟩ := HV.out; rw [g1, g5, h1]) (by obtain ⟨g1, g2, g3, g4, g5, g6, g7, g8⟩ := HV.out; rw [g2, g6, h2]) (by obtain ⟨g1, g2, g3, g4, g5, g6, g7, g8⟩ := HV.out; rw [g3, g7, h3]) (by obtain ⟨g1, g2, g3, g4, g5, g6, g7, g8⟩ := HV.out; rw [g4, g8, h4])))
                subst h1 h2 h3 h4
                go_wp2_with fail
                go_quiet (fail)
                have HB2 := Lib.hid (show Below W.heap.size W (wr.drewN nq) from belowT8 HB.out.1 (belowN8 _ _))
                go_wp2
                go_roundw
                case rel => exact ⟨k + 1, rfl, by omega, Lib.hid ⟨HB2.out, HH.out⟩⟩
                case measure => simp [intOf]; omega
              · have hne := HN.out fun e => h4 (by
                  have e2 : u = t := HU.out.1.symm.trans (e.trans HU.out.2)
                  obtain ⟨g1, g2, g3, g4, g5, g6, g7, g8⟩ := HV.out
                  rw [← g4, ← g8, e2])
                subst h1 h2 h3
                go_wp2_with fail
                go_quiet (fail)
                have HB2 := Lib.hid (show Below W.heap.size W (wr.drewN nq) from belowT8 HB.out.1 (belowN8 _ _))
                go_wp2
                go_ret
                exact ⟨by rw [hne]; rfl, HB2.out⟩
            · have hne := HN.out fun e => h3 (by
                have e2 : u = t := HU.out.1.symm.trans (e.trans HU.out.2)
                obtain ⟨g1, g2, g3, g4, g5, g6, g7, g8⟩ := HV.out
                rw [← g3, ← g7, e2])
              subst h1 h2
              go_wp2_with fail
              go_quiet (fail)
              have HB2 := Lib.hid (show Below W.heap.size W (wr.drewN nq) from belowT8 HB.out.1 (belowN8 _ _))
              go_wp2
              go_ret
              exact ⟨by rw [hne]; rfl, HB2.out⟩
          · have hne := HN.out fun e => h2 (by
              have e2 : u = t := HU.out.1.symm.trans (e.trans HU.out.2)
              obtain ⟨g1, g2, g3, g4, g5, g6, g7, g8⟩ := HV.out
              rw [← g2, ← g6, e2])
            subst h1
            have hb2 : decide (us = ts) = false := decide_eq_false h2
            have hb3 : (us.toList == ts.toList) = false := (Lib.bytes_beq_false_iff _ _).2 h2
            go_wp2_with fail
            go_quiet (fail)
            have HB2 := Lib.hid (show Below W.heap.size W (wr.drewN nq) from belowT8 HB.out.1 (belowN8 _ _))
            go_wp2
            go_ret
            exact ⟨by rw [hne]; rfl, HB2.out⟩
        · have hne := HN.out fun e => h1 (by
            have e2 : u = t := HU.out.1.symm.trans (e.trans HU.out.2)
            obtain ⟨g1, g2, g3, g4, g5, g6, g7, g8⟩ := HV.out
            rw [← g1, ← g5, e2])
          go_wp2_with fail
          go_quiet (fail)
          have HB2 := Lib.hid (show Below W.heap.size W (wr.drewN nq) from belowT8 HB.out.1 (belowN8 _ _))
          go_wp2
          go_ret
          exact ⟨by rw [hne]; rfl, HB2.out⟩
      · have heq : decide (xs = ys) = true := decide_eq_true (by
          have h := HB.out.2
          rwa [List.take_of_length_le (by omega), List.take_of_length_le (by omega)] at h)
        go_wp2
        go_ret
        exact ⟨by rw [heq]; rfl, HB.out.1⟩
  · have e1 : ((xs.length : Int) != (ys.length : Int)) = true := by simp; omega
    have e2 : (xs.length != ys.length) = true := by simpa using hl
    have hne : decide (xs = ys) = false := decide_eq_false fun e => hl (by rw [e])
    rw [hne]
    go_wp2
    go_ret
    exact ⟨rfl, Below.refl _ _⟩
end Go.Proofs.YtikpbfghdiomgaaDoor
