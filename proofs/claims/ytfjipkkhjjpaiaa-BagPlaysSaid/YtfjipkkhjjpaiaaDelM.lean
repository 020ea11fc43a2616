/-
  One element of a row of elements of k cells taken out in place: an append within the row, and the last element zeroed. No condition but those that each theorem states.
-/
import Derived.Test.YtfjipkkhjjpaiaaPutAI
import Derived.Deep.RegionLaw
namespace Go.Proofs.Ytfjipkkhjjpaiaa
open Go.RowKit Go.Shelf Go.Lib Go.Sort St

theorem step_append_run {P : Program} {ops : Array Oper} {o : Oper} {a : Act} {w w' : World} {K : Act → World → Prop} {Q : Exit → Act → World → Prop} {E : Prop}
    (hg : o.guard = none) (s x : Operand) (t : TypeId) (hop : o.op = Op.call { callee := Callee.builtin Builtin.append, args := #[s, x], argTypes := #[t, t] })
    {v1 v2 v' : Value} (hs : a.eval s = v1) (hx : a.eval x = v2) (hr : (Builtin.append_ #[t, t] o.type #[v1, v2]).run P w = .ok v' w') (hK : K (a.put o.dst v') w') :
    if Region.wanted o (yielded ops a.tmps) = true then Oper.wp P o a w K Q else E := by
  have hw : Region.wanted o (yielded ops a.tmps) = true := by simp [Region.wanted, hg]
  rw [if_pos hw]
  unfold Oper.wp
  rw [exec_append s x t hop hs hx hr]
  exact hK
theorem run_append_k {P : Program} (w : World) (T ty elem : TypeId) (i0 : TypeInfo) (sz g n cap m c : Nat) (a : Addr) (cur : Array Value) (t : TypeId) (news : List Value)
    (hu : P.underlying T = some (.slice elem)) (hi : P.info? elem = some i0) (hs : i0.size = sz) (hg : w.heap[g]? = some (.cells cur t (0, 0))) (hroom : n + m ≤ cap) (hn : news.length = m * sz)
    (hsrc : ∀ j v, news[j]? = some v → w.cell? (a.add j) = some v) (hfit : n * sz + news.length ≤ cur.size) (h1 : ∀ v ∈ news, v.oneCell' = true) :
    (Builtin.append_ #[T, T] ty #[.slice (some ⟨g, 0, none⟩) n cap, .slice (some a) m c]).run P w =
      .ok (.slice (some ⟨g, 0, none⟩) (n + m) cap) (w.setRow g (cur.toList.take (n * sz) ++ news ++ cur.toList.drop (n * sz + news.length)).toArray) := by
  subst hs
  have hfc := run_firstCells_some (P := P) w i0.size m a m c news hn hsrc
  have hst := run_storeCells_at P g (n * i0.size) t news 0 cur w hg (by simpa using hfit) h1
  simp only [Nat.add_zero] at hst
  simp [Builtin.append_, run_underlying hu, sizeOf, typeInfo, hi, Builtin.lenOf, hroom, hfc, Addr.add_lit, hst]
theorem run_clear_k {P : Program} (w : World) (T ty elem : TypeId) (z : Value) (g o c : Nat) (cur : Array Value) (t : TypeId) (hu : P.underlying T = some (.slice elem)) (hv : ∀ w, (zeroValue elem).run P w = .ok z w)
    (hg : w.heap[g]? = some (.cells cur t (0, 0))) (hfit : o + z.cells.size ≤ cur.size) (h1 : ∀ v ∈ z.cells.toList, v.oneCell' = true) :
    (Builtin.clear_ #[T] ty #[.slice (some ⟨g, o, none⟩) 1 c]).run P w = .ok (.tuple #[]) (w.setRow g (cur.toList.take o ++ z.cells.toList ++ cur.toList.drop (o + z.cells.toList.length)).toArray) := by
  have hzc : (Builtin.zeroCells z.cells 1).toList = z.cells.toList := by
    apply List.ext_getElem
    · simp [Builtin.zeroCells]
    · intro i h1 h2
      have h2' : i < z.cells.size := by simpa using h2
      simp [Builtin.zeroCells, Nat.mod_eq_of_lt h2', getElem!_pos z.cells i h2']
  have hst := run_storeCells_at P g o t z.cells.toList 0 cur w hg (by simpa using hfit) h1
  simp only [Nat.add_zero] at hst
  simp [Builtin.clear_, run_underlying hu, hv, hzc, hst]

/-- What lies behind place i moved one place ahead. -/
theorem erase_seg {α : Type} {c : α → List Value} {sz : Nat} (hc : ∀ x, (c x).length = sz) (h1 : ∀ x, ∀ v ∈ c x, v.oneCell' = true) {P : Program} {W : World} {T ty elem : TypeId} {i0 : TypeInfo} {g cap i : Nat} {R : List α}
    (hu : P.underlying T = some (.slice elem)) (hi0 : P.info? elem = some i0) (hs : i0.size = sz) (hrow : RowIs c sz elem g R.length cap W R) (hi : i < R.length) :
    ∃ W', (Builtin.append_ #[T, T] ty #[.slice (some ⟨g, 0, none⟩) i cap, sliced (some ⟨g, 0, none⟩) (i + 1) R.length cap sz]).run P W = .ok (.slice (some ⟨g, 0, none⟩) (R.length - 1) cap) W' ∧
      RowIs c sz elem g (R.length - 1) cap W' (R.eraseIdx i) ∧ Touch g none W W' := by
  obtain ⟨cur, w1, w2, w3, w4, w5⟩ := hrow.whole
  have hsl : ∃ A : Addr, sliced (some ⟨g, 0, none⟩) (i + 1) R.length cap sz = .slice (some A) (R.length - (i + 1)) (cap - (i + 1)) ∧ (i + 1 ≠ cap → A = ⟨g, (i + 1) * sz, none⟩) := by
    unfold sliced
    by_cases h : cap = i + 1
    · rw [if_pos h]; exact ⟨_, rfl, fun e => absurd h.symm e⟩
    · rw [if_neg h]
      refine ⟨_, rfl, fun _ => ?_⟩
      unfold Addr.add
      split <;> simp_all
  obtain ⟨A, hA, hA2⟩ := hsl
  have hnl : ((R.drop (i + 1)).flatMap c).length = (R.length - (i + 1)) * sz := by rw [flat_len hc, List.length_drop]
  have hmul1 : (i + 1) * sz + (R.length - (i + 1)) * sz = R.length * sz := by rw [← Nat.add_mul]; congr 1; omega
  have hmul2 : R.length * sz ≤ cap * sz := Nat.mul_le_mul_right _ w2
  rw [Nat.add_mul, Nat.one_mul] at hmul1
  have hrun := run_append_k (P := P) W T ty elem i0 sz g i cap (R.length - (i + 1)) (cap - (i + 1)) A cur elem ((R.drop (i + 1)).flatMap c) hu hi0 hs w1 (by omega) hnl (fun j v hj => by
    have hj2 := (List.getElem?_eq_some_iff.1 hj).1
    rw [hnl] at hj2
    have hne : i + 1 ≠ cap := by
      intro e
      have : R.length - (i + 1) = 0 := by omega
      rw [this] at hj2
      omega
    have hadd : A.add j = ⟨g, (i + 1) * sz + j, none⟩ := by
      rw [hA2 hne]
      unfold Addr.add
      split <;> simp_all
    rw [hadd, cell_of_row W g _ cur elem (0, 0) w1]
    rw [← flat_drop hc, ← w5, List.getElem?_drop, List.getElem?_take] at hj
    split at hj
    · simpa using hj
    · cases hj) (by omega) (fun v hv => by
    obtain ⟨x, _, hx⟩ := List.mem_flatMap.1 hv
    exact h1 x v hx)
  rw [hA]
  rw [show i + (R.length - (i + 1)) = R.length - 1 from by omega] at hrun
  refine ⟨_, hrun, ?_, ⟨rfl, rfl, rfl, by simp [World.setRow], fun k _ hk _ => setRow_other W g k _ hk⟩⟩
  refine RowIs.of (by rw [List.length_eraseIdx, if_pos hi]) hc (setRow_heap W g cur _ elem _ w1) (by omega) w3 ?_ ?_
  · simp only [List.size_toArray, List.length_append, List.length_take, List.length_drop, Array.length_toList, hnl, w4]
    omega
  · have hm1 : (R.length - 1) * sz = i * sz + (R.length - (i + 1)) * sz := by rw [← Nat.add_mul]; congr 1; omega
    have hl1 : (cur.toList.take (i * sz)).length = i * sz := by rw [List.length_take, Array.length_toList, w4]; omega
    have e1 : (R.take i).flatMap c = cur.toList.take (i * sz) := by rw [← flat_take hc, ← w5, List.take_take, Nat.min_eq_left (by omega)]
    simp only [List.eraseIdx_eq_take_drop_succ, List.flatMap_append, e1]
    rw [List.take_append_of_le_length (by rw [List.length_append, hl1, hnl]; omega), List.take_of_length_le (by rw [List.length_append, hl1, hnl]; omega)]
/-- The last element, which is no longer told, zeroed. -/
theorem zero_seg {α : Type} {c : α → List Value} {sz : Nat} (hc : ∀ x, (c x).length = sz) {P : Program} {W : World} {T ty elem : TypeId} {z : Value} {g n cap : Nat} {R : List α}
    (hu : P.underlying T = some (.slice elem)) (hv : ∀ w, (zeroValue elem).run P w = .ok z w) (hz : z.cells.size = sz) (h1 : ∀ v ∈ z.cells.toList, v.oneCell' = true) (hrow : RowIs c sz elem g n cap W R) (hn : n < cap) :
    ∃ W', (Builtin.clear_ #[T] ty #[sliced (some ⟨g, 0, none⟩) n (n + 1) cap sz]).run P W = .ok (.tuple #[]) W' ∧ RowIs c sz elem g n cap W' R ∧ Touch g none W W' := by
  obtain ⟨cur, w1, w2, w3, w4, w5⟩ := hrow.whole
  have hA : sliced (some ⟨g, 0, none⟩) n (n + 1) cap sz = .slice (some ⟨g, n * sz, none⟩) 1 (cap - n) := by
    unfold sliced
    rw [if_neg (by omega), show n + 1 - n = 1 from by omega]
    congr 2
    unfold Addr.add
    split <;> simp_all
  have hmul : n * sz + sz ≤ cap * sz := by rw [← Nat.succ_mul]; exact Nat.mul_le_mul_right _ hn
  have hrun := run_clear_k (P := P) W T ty elem z g (n * sz) (cap - n) cur elem hu hv w1 (by omega) h1
  rw [hA]
  refine ⟨_, hrun, RowIs.of hrow.len hc (setRow_heap W g cur _ elem _ w1) w2 w3 ?_ ?_, ⟨rfl, rfl, rfl, by simp [World.setRow], fun k _ hk _ => setRow_other W g k _ hk⟩⟩
  · simp only [List.size_toArray, List.length_append, List.length_take, List.length_drop, Array.length_toList, w4, hz]
    omega
  · have hl1 : (cur.toList.take (n * sz)).length = n * sz := by rw [List.length_take, Array.length_toList, w4]; omega
    rw [List.append_assoc, List.take_append_of_le_length (by omega), List.take_of_length_le (by omega), w5]
end Go.Proofs.Ytfjipkkhjjpaiaa
