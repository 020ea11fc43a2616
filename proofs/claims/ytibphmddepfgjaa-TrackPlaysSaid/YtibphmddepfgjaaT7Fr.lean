/-
  The frame of layer 7's laws: stamps, lists of stamps, a number, a byte opened. No condition but those that each theorem states.
-/
import Derived.Test.YtibphmddepfgjaaR7D
import Derived.ProofKit
import Derived.OpenShut
import Derived.Deep.DeepHandedRow
import Derived.Deep.Slices
import Derived.Deep.Strs
namespace Go.Proofs.Ytibphmddepfgjaa
open Go.ChangeShapes Go.WideShapes Go.ChangeAt Go.RowKit Go.Deep
set_option maxRecDepth 100000

abbrev W64 (x : Int) : Prop := (Lit.int .i64 x).wf = true
theorem own : ownKnob Try.prog.godebug = none := by kernel_rfl
theorem laidOut : laidOutB Try.prog = true := by kernel_rfl
theorem cellsInt : Try.prog.cellsOf 3 = 1 := by kernel_rfl
theorem cellsByte : Try.prog.cellsOf 5 = 1 := by kernel_rfl
theorem int_open {H : Type} {enc : TypeId × Value → H} {W : World} {b0 : Nat} {v : Value} {d : DataW H} {p : List MemPlace} (hv : Value.okWide Try.prog W .any b0 3 v) (h : DataW.Trod enc Try.prog W 0 (fun _ => true) true 3 v d p) :
    ∃ n : Int, v = .int .i64 n ∧ W64 n := by
  obtain ⟨an, rfl, rfl, rfl, wa1⟩ := open_int Try.underlying3 hv h
  exact ⟨an, rfl, wa1⟩
theorem byte_open {H : Type} {enc : TypeId × Value → H} {W : World} {b0 : Nat} {v : Value} {d : DataW H} {p : List MemPlace} (hv : Value.okWide Try.prog W .any b0 5 v) (h : DataW.Trod enc Try.prog W 0 (fun _ => true) true 5 v d p) :
    ∃ n : Nat, v = .int .u8 (n : Int) ∧ n ≤ 255 := by
  obtain ⟨an, rfl, rfl, rfl, wa1⟩ := open_int Try.underlying5 hv h
  have hw := wa1
  have h1 : IntKind.u8.min = 0 := by decide
  have h2 : IntKind.u8.max = 255 := by decide
  simp [Lit.wf] at hw
  exact ⟨an.toNat, by congr 1; omega, by omega⟩
theorem spot_none {W : World} {a : Addr} {v : Value} (h : W.cell? a = some v) : a.spot = none := by simpa using World.cell?_spot h
theorem cellsTime : Try.prog.cellsOf 24 = 2 := by kernel_rfl
theorem cellsStamp : Try.prog.cellsOf 26 = 3 := by kernel_rfl
/-- The cells of a stamp. -/
theorem stamp_cells {H : Type} {enc : TypeId × Value → H} {W : World} {l : List Value} {n : Nat} {x : DataW H × List MemPlace} (hlen : l.length = 3) (h : DataW.trod enc Try.prog W 0 (fun _ => true) true n 26 l = some x) :
    ∃ a b c : Int, l = [.int .i64 a, .int .i64 b, .int .i64 c] ∧ (Lit.int .i64 a).wf = true ∧ (Lit.int .i64 b).wf = true ∧ (Lit.int .i64 c).wf = true := by
  match l, hlen with
  | [c0, c1, c2], _ =>
  obtain ⟨y0, y1, m, _, _, hy0, hy1⟩ := trod_struct2 Try.underlying26 h
  simp [cellsTime] at hy0
  obtain ⟨z0, z1, m2, _, _, hz0, hz1⟩ := trod_struct2 Try.underlying24 hy0
  obtain ⟨a, e0, _, wa⟩ := DataW.trod_int Try.underlying3 hz0
  obtain ⟨b, e1, _, wb⟩ := DataW.trod_int Try.underlying3 hz1
  obtain ⟨c, e2, _, wc⟩ := DataW.trod_int Try.underlying3 hy1
  simp [cellsInt] at e0 e1 e2
  subst e0 e1 e2
  exact ⟨a, b, c, rfl, wa, wb, wc⟩
theorem stamp_open {H : Type} {enc : TypeId × Value → H} {W : World} {b0 : Nat} {v : Value} {d : DataW H} {p : List MemPlace} (hv : Value.okWide Try.prog W .any b0 26 v) (h : DataW.Trod enc Try.prog W 0 (fun _ => true) true 26 v d p) :
    ∃ a b c : Int, v = stV a b c ∧ In3 a b c := by
  obtain ⟨cs, rfl, hsz⟩ := okWide_struct Try.underlying26 hv
  rw [cellsStamp] at hsz
  obtain ⟨l⟩ := cs
  obtain ⟨fuel, hf⟩ := h
  obtain ⟨a, b, c, e, wa, wb, wc⟩ := stamp_cells (l := l) (by simpa using hsz) (by simpa [Value.cells] using hf)
  subst e
  exact ⟨a, b, c, rfl, bounds_i64 wa, bounds_i64 wb, bounds_i64 wc⟩

/-- Elements that lie one behind the other are a list in memory. -/
theorem list_of {α : Type} [Inhabited α] {c : α → List Value} {m : Nat} (h0 : 0 < m) (hc : ∀ x, (c x).length = m) {P : α → Prop} {W : World} {a : Addr} {len : Nat} (hall : ∀ i, i < len → ∃ y : α, (∀ r u, (c y)[r]? = some u → W.cell? ((a.add (i * m)).add r) = some u) ∧ P y) :
    ∃ ys : List α, ys.length = len ∧ InList c W (some a) ys ∧ ∀ y ∈ ys, P y := by
  obtain ⟨f, hf'⟩ := choose_lt hall
  have hlen : ((List.range len).map f).length = len := by simp
  refine ⟨(List.range len).map f, hlen, ?_, fun y hy => ?_⟩
  · by_cases hz : len = 0
    · subst hz; exact .inl rfl
    · have hs : a.spot = none := by
        have hne : 0 < (c (f 0)).length := by rw [hc]; exact h0
        have h1 := (hf' 0 (by omega)).1 0 _ (List.getElem?_eq_getElem hne)
        have h2 : (a.add (0 * m)).add 0 = a := by simp [Addr.add]
        rw [h2] at h1
        exact spot_none h1
      obtain ⟨b, o, sp⟩ := a
      simp only at hs
      subst hs
      refine .inr ⟨b, o, rfl, fun j u hu => ?_⟩
      have hj := (List.getElem?_eq_some_iff.1 hu).1
      rw [flat_len hc, hlen] at hj
      have hi : j / m < len := (Nat.div_lt_iff_lt_mul h0).2 hj
      have hr : j % m < m := Nat.mod_lt _ h0
      have h1 := flat_get hc ((List.range len).map f) (j / m) (j % m) (by rw [hlen]; exact hi) hr
      rw [Nat.div_add_mod', hu, List.getElem_map, List.getElem_range] at h1
      have h2 := (hf' (j / m) hi).1 (j % m) u h1.symm
      rw [add_add, Tr.addE, Nat.div_add_mod'] at h2
      exact h2
  · obtain ⟨i, hi, rfl⟩ := List.mem_map.1 hy
    exact (hf' i (List.mem_range.1 hi)).2
theorem stamps_open {H : Type} {enc : TypeId × Value → H} {W : World} {b0 : Nat} {v : Value} {d : DataW H} {p : List MemPlace} (hv : Value.okWide Try.prog W .any b0 22 v) (h : DataW.Trod enc Try.prog W 0 (fun _ => true) true 22 v d p) :
    ∃ (q : Option Addr) (cap : Nat) (ys : List Tr.Sp), v = .slice q ys.length cap ∧ InList Tr.cSp W q ys ∧ ∀ y ∈ ys, y.I := by
  obtain ⟨a0, len, cap, rfl⟩ := okWide_slice Try.underlying22 hv
  obtain ⟨fuel, hf⟩ := h
  rcases open_slice Try.underlying22 hf with ⟨hcs, _⟩ | ⟨a, len', cap', m, n, D, Pl, hcs, _, hl, hm, hmm, _, hi⟩
  · simp [Value.cells] at hcs
    obtain ⟨rfl, rfl, rfl⟩ := hcs
    exact ⟨none, 0, [], rfl, .inl rfl, fun y hy => by cases hy⟩
  · simp [Value.cells] at hcs
    obtain ⟨rfl, rfl, rfl⟩ := hcs
    rw [if_pos rfl] at hmm
    obtain ⟨ys, e1, e2, e3⟩ := list_of (c := Tr.cSp) (m := 3) (P := fun y => y.I) (W := W) (a := a) (len := len) (by decide) (fun _ => rfl) (fun i hil => by
      obtain ⟨cs', hc, ht⟩ := hi i (by omega)
      rw [cellsStamp] at hc
      obtain ⟨_, hlen, hat⟩ := World.cells?_some hc
      obtain ⟨x, y, z, e, wa, wb, wc⟩ := stamp_cells hlen ht
      subst e
      refine ⟨(x, y, z), fun r u hu => ?_, bounds_i64 wa, bounds_i64 wb, bounds_i64 wc⟩
      have hr := (List.getElem?_eq_some_iff.1 hu).1
      rw [← hu]
      exact hat r hr)
    exact ⟨some a, cap, ys, by rw [e1], e2, e3⟩
end Go.Proofs.Ytibphmddepfgjaa
