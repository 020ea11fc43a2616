/-
  Mathematics of the law TokenAgain: the places of a text's words rise; the words of a text written anew. No condition but those that each theorem states.
-/
import Derived.Test.YtikpbfghdiomgaaDoorT8G
namespace Go.Proofs.YtikpbfghdiomgaaDoor
open Go.RowKit Go.Lib Tk

theorem wok_pos {w : Tk.W} (h : WOk w) : 0 < (Tk.txt w).length ∧ w.kind ≠ 4 := by
  refine ⟨(h.again (r := []) (.inl rfl)).2, ?_⟩
  obtain ⟨l, h1, h2, _, _⟩ := h
  rw [h2]
  match l with
  | [] => simp [word] at h1
  | c :: l =>
    by_cases k1 : isL c = true
    · have hw := word_L (l := l) k1
      split at hw <;> (rw [hw]; simp)
    · have k1f : isL c = false := by simpa using k1
      by_cases k2 : c.toNat = 39
      · match l with
        | [] => rw [word_Q0 k2]; decide
        | d :: l =>
          have hw := word_Q (l := l) (d := d) k2
          split at hw
          · split at hw <;> (rw [hw]; simp)
          · rw [hw]; simp
      · by_cases k3 : isD c = true
        · have hw := word_D (l := l) k1f k2 k3
          split at hw
          · rw [hw]; simp
          · split at hw <;> (rw [hw]; simp)
        · have k3f : isD c = false := by simpa using k3
          have hw := word_M (l := l) k1f k2 k3f
          split at hw <;> (rw [hw]; simp)
/-- The places rise, up to the End. -/
theorem scan_rise {s : ByteArray} {L : List Tk.W} {n : Nat} (h : Tk.scan (bs s) = (L, n, 0)) : L.Pairwise (fun a b => a.p < b.p) := by
  obtain ⟨h1, h2, h3⟩ := scan_ok (l := bs s) (by rw [h])
  rw [h] at h3
  obtain ⟨us, e, h4, h5⟩ := lex_shape _ 0 (bs s) L (Nat.lt_succ_self _) h3
  rw [e, List.pairwise_append]
  refine ⟨h5, List.pairwise_singleton _ _, fun a ha b hb => ?_⟩
  obtain rfl : b = ⟨4, [], 0, 0 + (bs s).length⟩ := by simpa using hb
  have k1 := h4 a ha
  have k2 := (wok_pos k1.1).1
  show a.p < 0 + (bs s).length
  omega
theorem map_get {us vs : List Tk.W} (h : vs.map (fun u : Tk.W => (u.kind, u.s, u.n)) = us.map (fun u : Tk.W => (u.kind, u.s, u.n))) {i : Nat} {u : Tk.W} (hu : us[i]? = some u) : ∃ v, vs[i]? = some v ∧ v.kind = u.kind ∧ v.s = u.s ∧ v.n = u.n := by
  have h1 : (us.map (fun u : Tk.W => (u.kind, u.s, u.n)))[i]? = some (u.kind, u.s, u.n) := by rw [List.getElem?_map, hu]; rfl
  rw [← h, List.getElem?_map] at h1
  cases hv : vs[i]? with
  | none => rw [hv] at h1; cases h1
  | some v =>
    rw [hv] at h1
    simp only [Option.map_some, Option.some.injEq, Prod.mk.injEq] at h1
    exact ⟨v, rfl, h1.1, h1.2.1, h1.2.2⟩
/-- What the words of the text written anew are. -/
theorem again_scan {g : Bs} (hg : Gap g) {us : List Tk.W} (hu : ∀ u ∈ us, WOk u) (e : Tk.W) (he : e.kind = 4 ∧ e.s = [] ∧ e.n = 0) (hA : ((us.flatMap fun u => Tk.txt u ++ g) ++ g).length ≤ 16384) :
    ∃ L2, Tk.scan ((us.flatMap fun u => Tk.txt u ++ g) ++ g) = (L2, 0, 0) ∧ L2.length = us.length + 1 ∧ ∀ (i : Nat) (u : Tk.W), (us ++ [e])[i]? = some u → ∃ v : Tk.W, L2[i]? = some v ∧ v.kind = u.kind ∧ v.s = u.s ∧ v.n = u.n := by
  obtain ⟨vs, h1, h2⟩ := lex_again hg us hu _ 0 (Nat.lt_succ_self _)
  have hl : vs.length = us.length := by
    have := congrArg List.length h2
    rwa [List.length_map, List.length_map] at this
  refine ⟨_, scan_of hA h1, by rw [List.length_append, hl]; rfl, fun i u hi => ?_⟩
  by_cases hlt : i < us.length
  · rw [List.getElem?_append_left hlt] at hi
    obtain ⟨v, k1, k2⟩ := map_get h2 hi
    exact ⟨v, by rw [List.getElem?_append_left (by omega)]; exact k1, k2⟩
  · rw [List.getElem?_append_right (by omega)] at hi
    have h0 : i - us.length = 0 := by
      have := (List.getElem?_eq_some_iff.1 hi).1
      simp at this
      omega
    rw [h0] at hi
    obtain rfl : e = u := by simpa using hi
    exact ⟨_, by rw [List.getElem?_append_right (by omega), hl, h0]; rfl, he.1.symm, he.2.1.symm, he.2.2.symm⟩
/-- The text written anew: all words with their gaps; the End has no text. -/
theorem again_text {g : Bs} (us : List Tk.W) {e : Tk.W} (he : e.kind = 4 ∧ e.s = [] ∧ e.n = 0) : ((us ++ [e]).flatMap fun u => Tk.txt u ++ g) = (us.flatMap fun u => Tk.txt u ++ g) ++ g := by
  rw [List.flatMap_append]
  congr 1
  have : Tk.txt e = [] := by unfold Tk.txt; rw [he.1, if_neg (by decide), if_neg (by decide)]; exact he.2.1
  simp [this]
end Go.Proofs.YtikpbfghdiomgaaDoor
