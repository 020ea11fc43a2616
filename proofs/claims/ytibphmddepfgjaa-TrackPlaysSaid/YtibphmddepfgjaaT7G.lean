/-
  What turns in the memory of a track's entries: one appended, one set, some zeroed. No condition but those that each theorem states.
-/
import Derived.Test.YtibphmddepfgjaaT7F
namespace Go.Proofs.Ytibphmddepfgjaa.Tr
open Go.RowKit Go.Shelf Go.Lib Go.Sort

/-- A row, some of whose cells were written. -/
def splc (cur : Array Value) (o : Nat) (news : List Value) : Array Value := (cur.toList.take o ++ news ++ cur.toList.drop (o + news.length)).toArray
theorem splc_size {cur : Array Value} {o : Nat} {news : List Value} (h : o + news.length ≤ cur.size) : (splc cur o news).size = cur.size := by
  simp only [splc, List.size_toArray, List.length_append, List.length_take, List.length_drop, Array.length_toList]
  omega
theorem splc_low {cur : Array Value} {o : Nat} {news : List Value} (h : o + news.length ≤ cur.size) {i : Nat} (hi : i < o) : (splc cur o news)[i]? = cur[i]? := by
  simp only [splc, List.getElem?_toArray]
  rw [List.append_assoc, List.getElem?_append_left (by rw [List.length_take, Array.length_toList]; omega), List.getElem?_take, if_pos hi, Array.getElem?_toList]
theorem splc_in {cur : Array Value} {o : Nat} {news : List Value} (h : o + news.length ≤ cur.size) {j : Nat} (hj : j < news.length) : (splc cur o news)[o + j]? = news[j]? := by
  simp only [splc, List.getElem?_toArray]
  have hl : (cur.toList.take o).length = o := by rw [List.length_take, Array.length_toList]; omega
  rw [List.append_assoc, List.getElem?_append_right (by omega), hl, Nat.add_sub_cancel_left, List.getElem?_append_left hj]
theorem splc_high {cur : Array Value} {o : Nat} {news : List Value} (h : o + news.length ≤ cur.size) {i : Nat} (hi : o + news.length ≤ i) : (splc cur o news)[i]? = cur[i]? := by
  simp only [splc, List.getElem?_toArray]
  have hl : (cur.toList.take o ++ news).length = o + news.length := by rw [List.length_append, List.length_take, Array.length_toList]; omega
  rw [List.getElem?_append_right (by omega), hl, List.getElem?_drop, Array.getElem?_toList]
  congr 1
  omega

theorem run_append_at {P : Program} (w : World) (T ty elem : TypeId) (i0 : TypeInfo) (sz g off n cap m c : Nat) (a : Addr) (cur : Array Value) (t : TypeId) (news : List Value)
    (hu : P.underlying T = some (.slice elem)) (hi : P.info? elem = some i0) (hs : i0.size = sz) (hg : w.heap[g]? = some (.cells cur t (0, 0))) (hroom : n + m ≤ cap) (hn : news.length = m * sz)
    (hsrc : ∀ j v, news[j]? = some v → w.cell? (a.add j) = some v) (hfit : off + n * sz + news.length ≤ cur.size) (h1 : ∀ v ∈ news, v.oneCell' = true) :
    (Builtin.append_ #[T, T] ty #[.slice (some ⟨g, off, none⟩) n cap, .slice (some a) m c]).run P w =
      .ok (.slice (some ⟨g, off, none⟩) (n + m) cap) (w.setRow g (splc cur (off + n * sz) news)) := by
  subst hs
  have hfc := run_firstCells_some (P := P) w i0.size m a m c news hn hsrc
  have hst := run_storeCells_at P g (off + n * i0.size) t news 0 cur w hg (by simpa using hfit) h1
  simp only [Nat.add_zero] at hst
  simp [Builtin.append_, run_underlying hu, sizeOf, typeInfo, hi, Builtin.lenOf, hroom, hfc, Addr.add_lit, hst, splc]

theorem Ents.of_row {W : World} {B : Nat} {v : Value} {n : Nat} {L : List En} (h : W.ownsRow B 71 4 v n (L.flatMap cE)) (hn : L.length = n) (h0 : 0 < n) : ∃ g cap, v = .slice (some ⟨g, 0, none⟩) n cap ∧ Ents W v L (some g) ∧ B ≤ g := by
  rcases h.2 with ⟨_, e⟩ | ⟨g, cap, cur, e, hB, hg, h1, h2, h3, h4⟩
  · omega
  · refine ⟨g, cap, e, .inr ⟨g, 0, cap, cur, by rw [e, hn], rfl, by omega, by omega, hg, by omega, fun j u hu => ?_⟩, hB⟩
    rw [← h4, List.getElem?_take] at hu
    rw [Nat.zero_add]
    split at hu
    · simpa using hu
    · cases hu
theorem flat_snoc (L : List En) (x : En) : (L ++ [x]).flatMap cE = L.flatMap cE ++ cE x := by
  rw [List.flatMap_append]
  simp
/-- One entry appended. -/
theorem ents_append {W : World} {v : Value} {L : List En} {G : Option Nat} (h : Ents W v L G) (x : En) (src : Nat) (hs : W.heap[src]? = some (.cells #[.int .i64 x.1.1, .int .i64 x.1.2.1, .int .i64 x.1.2.2, .int .i64 x.2] 71 (0, 0))) (hl : L.length ≤ 2000000) :
    ∃ p1 c1 G' W5, (Builtin.append_ #[64, 64] 64 #[v, .slice (some ⟨src, 0, none⟩) 1 1]).run Try.prog W = .ok (.slice p1 (L.length + 1) c1) W5 ∧ Ents W5 (.slice p1 (L.length + 1) c1) (L ++ [x]) G' ∧ (G' = G ∨ ∃ g, G' = some g ∧ W.heap.size ≤ g) ∧ W.grownBy W5 G := by
  obtain ⟨i0, hi0, hz0, hz1, hz2⟩ := info_parts infoEn
  have hsrc : ∀ j u, (cE x)[j]? = some u → W.cell? ((⟨src, 0, none⟩ : Addr).add j) = some u := fun j u hu => by
    rw [addE, cell_of_row W src _ _ _ (0, 0) hs, Nat.zero_add]
    simpa [cE] using hu
  have hlx : (L ++ [x]).length = L.length + 1 := by rw [List.length_append]; rfl
  -- the arm that grows
  have grows : ∀ v' w', w'.ownsRow W.heap.size 71 4 v' (L.length + 1) (L.flatMap cE ++ cE x) → W.grownBy w' none → ∃ p1 c1 G', v' = .slice p1 (L.length + 1) c1 ∧ Ents w' (.slice p1 (L.length + 1) c1) (L ++ [x]) G' ∧ (G' = G ∨ ∃ g, G' = some g ∧ W.heap.size ≤ g) ∧ W.grownBy w' G := fun v' w' hr hg => by
    rw [← flat_snoc] at hr
    obtain ⟨g, cap, e, he, hB⟩ := Ents.of_row hr hlx (by omega)
    exact ⟨_, cap, some g, e, e ▸ he, .inr ⟨g, rfl, hB⟩, ⟨hg.os, hg.tape, hg.output, hg.size, fun k hk _ => hg.block k hk (by simp)⟩⟩
  rcases id h with ⟨p, rfl, rfl, rfl⟩ | ⟨g, off, cap, cur, rfl, rfl, h0, h1, h2, h3, h4⟩
  · cases p with
    | none =>
      obtain ⟨v', w', hrun, r1, r2, _⟩ := run_append_own (P := Try.prog) W W.heap.size 64 64 71 i0 (.agg #[.int .i64 0, .int .i64 0, .int .i64 0, .int .i64 0]) 4 32 Try.underlying64 hi0 hz0 hz1 hz2 rfl (by decide) (.slice none 0 0) 0 [] (World.ownsRow_nil W _ _ 4) ⟨src, 0, none⟩ 1 1 (cE x) rfl hsrc (cE_one x) (by decide) (by decide) (Nat.le_refl _)
      obtain ⟨p1, c1, G', rfl, e1, e2, e3⟩ := grows v' w' (by simpa using r1) (by simpa [Value.ownBlock] using r2)
      exact ⟨p1, c1, G', w', hrun, e1, e2, e3⟩
    | some b =>
      obtain ⟨v', w', hrun, r1, r2⟩ := run_append_arg_grows (P := Try.prog) W 64 64 71 i0 (.agg #[.int .i64 0, .int .i64 0, .int .i64 0, .int .i64 0]) 4 32 Try.underlying64 hi0 hz0 hz1 hz2 rfl (by decide) b 0 0 [] rfl (fun j u hu => by simp at hu) ⟨src, 0, none⟩ 1 1 (cE x) rfl hsrc (by decide) (by decide) (by decide)
      obtain ⟨p1, c1, G', rfl, e1, e2, e3⟩ := grows v' w' (by simpa using r1) r2
      exact ⟨p1, c1, G', w', hrun, e1, e2, e3⟩
  · by_cases hr : L.length + 1 ≤ cap
    · have hfit : off + L.length * 4 + (cE x).length ≤ cur.size := by rw [cE_len]; omega
      have hrun := run_append_at (P := Try.prog) W 64 64 71 i0 4 g off L.length cap 1 1 ⟨src, 0, none⟩ cur _ (cE x) Try.underlying64 hi0 hz1 h2 hr rfl hsrc hfit (cE_one x)
      refine ⟨_, cap, some g, _, hrun, .inr ⟨g, off, cap, _, by rw [hlx], rfl, h0, by omega, setRow_heap W g cur _ _ _ h2, by rw [splc_size hfit]; exact h3, fun j u hu => ?_⟩, .inl rfl, ⟨rfl, rfl, rfl, by simp [World.setRow], fun k _ hk => setRow_other W g k _ (by simpa using hk)⟩⟩
      rw [flat_snoc] at hu
      by_cases hj : j < L.length * 4
      · rw [List.getElem?_append_left (by rw [flat_len]; exact hj)] at hu
        rw [splc_low hfit (by omega)]
        exact h4 j u hu
      · rw [List.getElem?_append_right (by rw [flat_len]; omega), flat_len] at hu
        have h5 := (List.getElem?_eq_some_iff.1 hu).1
        have := splc_in hfit h5
        rw [show off + L.length * 4 + (j - L.length * 4) = off + j from by omega] at this
        rw [this]
        exact hu
    · obtain ⟨v', w', hrun, r1, r2⟩ := run_append_arg_grows (P := Try.prog) W 64 64 71 i0 (.agg #[.int .i64 0, .int .i64 0, .int .i64 0, .int .i64 0]) 4 32 Try.underlying64 hi0 hz0 hz1 hz2 rfl (by decide) ⟨g, off, none⟩ L.length cap (L.flatMap cE) (flat_len L) (fun j u hu => by
        rw [addE, cell_of_row W g _ cur _ (0, 0) h2]
        exact h4 j u hu) ⟨src, 0, none⟩ 1 1 (cE x) rfl hsrc (by omega) (by unfold maxLen; omega) (by omega)
      obtain ⟨p1, c1, G', rfl, e1, e2, e3⟩ := grows v' w' r1 r2
      exact ⟨p1, c1, G', w', hrun, e1, e2, e3⟩

/-- The thing of an entry changed. -/
theorem ents_set {W : World} {g off cap : Nat} {cur : Array Value} {L : List En} {i : Nat} (x : Int) (h2 : W.heap[g]? = some (.cells cur 71 (0, 0))) (h3 : cur.size = off + cap * 4) (h4 : ∀ (j : Nat) (u : Value), (L.flatMap cE)[j]? = some u → cur[off + j]? = some u) (hi : i < L.length) (hc : L.length ≤ cap) :
    Ents (W.setCell ⟨g, off + i * 4 + 3, none⟩ (.int .i64 x)) (.slice (some ⟨g, off, none⟩) L.length cap) (L.set i ((gE L i).1, x)) (some g) := by
  have hh := heap_setCell_same W g (off + i * 4 + 3) _ _ (.int .i64 x) h2
  refine .inr ⟨g, off, cap, _, by rw [List.length_set], rfl, by omega, by rw [List.length_set]; exact hc, hh, by simpa using h3, fun j u hu => ?_⟩
  have hjl := (List.getElem?_eq_some_iff.1 hu).1
  rw [flat_len, List.length_set] at hjl
  have hq : j / 4 < L.length := by omega
  have hj : j = j / 4 * 4 + j % 4 := by omega
  have hm : j % 4 < 4 := Nat.mod_lt _ (by decide)
  by_cases he : j = i * 4 + 3
  · subst he
    have h5 : (L.set i ((gE L i).1, x))[i]? = some ((gE L i).1, x) := by rw [List.getElem?_set_self (by omega)]
    have h6 : ((L.set i ((gE L i).1, x)).flatMap cE)[i * 4 + 3]? = some (.int .i64 x) := flat_at h5 (j := 3) rfl
    rw [h6] at hu
    rw [← hu, show off + (i * 4 + 3) = off + i * 4 + 3 from by omega, Array.getElem?_setIfInBounds_self_of_lt (by omega)]
  · rw [Array.getElem?_setIfInBounds_ne (by omega)]
    refine h4 j u ?_
    rw [← hu]
    obtain ⟨y, hy⟩ : ∃ y, L[j / 4]? = some y := ⟨_, List.getElem?_eq_getElem hq⟩
    obtain ⟨z, hz⟩ : ∃ z, (L.set i ((gE L i).1, x))[j / 4]? = some z := ⟨_, List.getElem?_eq_getElem (by rw [List.length_set]; exact hq)⟩
    have hyz : (cE y)[j % 4]? = (cE z)[j % 4]? := by
      by_cases hqi : j / 4 = i
      · rw [hqi] at hy hz
        rw [List.getElem?_set_self (by omega)] at hz
        have hyi : y = gE L i := by
          have := gE_get hi
          rw [hy] at this
          exact Option.some.inj this
        obtain rfl : z = ((gE L i).1, x) := (Option.some.inj hz).symm
        have h7 : j % 4 ≠ 3 := by omega
        rw [hyi]
        generalize j % 4 = r at hm h7
        rcases r with _ | _ | _ | _ | r
        · rfl
        · rfl
        · rfl
        · exact absurd rfl h7
        · omega
      · rw [List.getElem?_set_ne (Ne.symm hqi), hy] at hz
        rw [Option.some.inj hz]
    obtain ⟨c, hcc⟩ : ∃ c, (cE y)[j % 4]? = some c := ⟨_, List.getElem?_eq_getElem (by rw [cE_len]; exact hm)⟩
    have e1 := flat_at hy hcc
    have e2 := flat_at hz (hyz ▸ hcc)
    rw [← hj] at e1 e2
    rw [e1, e2]

/-- Some cells zeroed. -/
theorem run_clear_at {P : Program} (w : World) (T ty elem : TypeId) (z : Value) (g o n c : Nat) (cur : Array Value) (t : TypeId) (hn : 0 < n) (hu : P.underlying T = some (.slice elem)) (hv : ∀ w, (zeroValue elem).run P w = .ok z w) (hz : z.cells = #[.int .i64 0, .int .i64 0, .int .i64 0, .int .i64 0])
    (hg : w.heap[g]? = some (.cells cur t (0, 0))) (hfit : o + n * 4 ≤ cur.size) :
    ∃ news : List Value, news.length = n * 4 ∧ (Builtin.clear_ #[T] ty #[.slice (some ⟨g, o, none⟩) n c]).run P w = .ok (.tuple #[]) (w.setRow g (splc cur o news)) := by
  have hl : (Builtin.zeroCells z.cells n).toList.length = n * 4 := by rw [Array.length_toList, size_zeroCells, hz]; rfl
  have h1 : ∀ v ∈ (Builtin.zeroCells z.cells n).toList, v.oneCell' = true := by
    intro v hm
    rw [hz] at hm
    simp only [Builtin.zeroCells, Array.toList_map, List.mem_map] at hm
    obtain ⟨i, _, rfl⟩ := hm
    have hi : i % 4 < 4 := Nat.mod_lt _ (by decide)
    show (#[Value.int .i64 0, .int .i64 0, .int .i64 0, .int .i64 0][i % 4]!).oneCell' = true
    generalize i % 4 = r at hi
    rcases r with _ | _ | _ | _ | r
    · rfl
    · rfl
    · rfl
    · rfl
    · omega
  have hst := run_storeCells_at P g o t (Builtin.zeroCells z.cells n).toList 0 cur w hg (by rw [hl]; simpa using hfit) h1
  simp only [Nat.add_zero] at hst
  refine ⟨_, hl, ?_⟩
  obtain ⟨m, rfl⟩ : ∃ m, n = m + 1 := ⟨n - 1, by omega⟩
  simp [Builtin.clear_, run_underlying hu, hv, hst, splc]
/-- What a clearing leaves. -/
structure Clr (g o n : Nat) (cur : Array Value) (W W' : World) : Prop where
  row : ∃ cur', W'.heap[g]? = some (.cells cur' 71 (0, 0)) ∧ cur'.size = cur.size ∧ ∀ i, i < o ∨ o + n * 4 ≤ i → cur'[i]? = cur[i]?
  block : ∀ b, b ≠ g → W'.heap[b]? = W.heap[b]?
  os : W'.os = W.os
  tape : W'.tape = W.tape
  output : W'.output = W.output
  size : W'.heap.size = W.heap.size
theorem clear_ents {W : World} {g o n : Nat} (c ty : Nat) {cur : Array Value} (hg : W.heap[g]? = some (.cells cur 71 (0, 0))) (hfit : o + n * 4 ≤ cur.size) (hn : 0 < n) :
    ∃ W', (Builtin.clear_ #[64] ty #[.slice (some ⟨g, o, none⟩) n c]).run Try.prog W = .ok (.tuple #[]) W' ∧ Clr g o n cur W W' := by
  obtain ⟨news, hl, hr⟩ := run_clear_at (P := Try.prog) W 64 ty 71 (.agg #[.int .i64 0, .int .i64 0, .int .i64 0, .int .i64 0]) g o n c cur _ hn Try.underlying64 (fun w => by first | exact Try.zeroValue71 w | exact Try.zeroValue71 _ w) rfl hg hfit
  have hf : o + news.length ≤ cur.size := by omega
  refine ⟨_, hr, ⟨_, setRow_heap W g cur _ _ _ hg, splc_size hf, fun i hi => ?_⟩, fun b hb => setRow_other W g b _ hb, rfl, rfl, rfl, by simp [World.setRow]⟩
  rcases hi with h | h
  · exact splc_low hf h
  · exact splc_high hf (by omega)
end Go.Proofs.Ytibphmddepfgjaa.Tr
