/-
  The frame of the law over calls on a track: a list of calls opened. No condition but those that each theorem states.
-/
import Derived.Test.YtibphmddepfgjaaT7Fr
import Derived.Test.YtibphmddepfgjaaR7P
namespace Go.Proofs.Ytibphmddepfgjaa
open Go.ChangeShapes Go.WideShapes Go.ChangeAt Go.RowKit Go.Deep
set_option maxRecDepth 100000

theorem cellsAct : Try.prog.cellsOf 44 = 5 := by kernel_rfl
theorem act_cells {H : Type} {enc : TypeId × Value → H} {W : World} {fuel : Nat} {cs : List Value} {x : DataW H × List MemPlace}
    (h : DataW.trod enc Try.prog W 0 (fun _ => true) true fuel 44 cs = some x) : ∃ y : Tr.Ac, cs = Tr.cA y ∧ (0 ≤ y.1 ∧ y.1 ≤ 255) ∧ y.2.1.I ∧ In64 y.2.2 := by
  obtain ⟨y0, y1, y2, m, rfl, hl, hy0, hy1, hy2⟩ := trod_struct3 Try.underlying44 h
  rw [cellsAct] at hl
  match cs, hl with
  | [c0, c1, c2, c3, c4], _ =>
    simp [cellsByte, cellsInt, cellsStamp] at hy0 hy1 hy2
    obtain ⟨d, e0, rfl, wd⟩ := DataW.trod_int Try.underlying5 hy0
    obtain ⟨a, b, c, e1, wa, wb, wc⟩ := stamp_cells (by rfl) hy1
    obtain ⟨n, e2, rfl, wn⟩ := DataW.trod_int Try.underlying3 hy2
    simp at e0 e1 e2
    obtain ⟨f1, f2, f3⟩ := e1
    subst e0 f1 f2 f3 e2
    have h1 : IntKind.u8.min = 0 := by decide
    have h2 : IntKind.u8.max = 255 := by decide
    have wd2 := wd
    simp [Lit.wf] at wd2
    exact ⟨(d, (a, b, c), n), rfl, ⟨by dsimp only; omega, by dsimp only; omega⟩, ⟨bounds_i64 wa, bounds_i64 wb, bounds_i64 wc⟩, bounds_i64 wn⟩
theorem acts_open {H : Type} {enc : TypeId × Value → H} {W : World} {b0 : Nat} {v : Value} {d : DataW H} {p : List MemPlace} (hv : Value.okWide Try.prog W .any b0 42 v) (h : DataW.Trod enc Try.prog W 0 (fun _ => true) true 42 v d p) :
    ∃ (q : Option Addr) (cap : Nat) (ys : List Tr.Ac), v = .slice q ys.length cap ∧ InList Tr.cA W q ys ∧ ∀ y ∈ ys, (0 ≤ y.1 ∧ y.1 ≤ 255) ∧ y.2.1.I ∧ In64 y.2.2 := by
  obtain ⟨a0, len, cap, rfl⟩ := okWide_slice Try.underlying42 hv
  obtain ⟨fuel, hf⟩ := h
  rcases open_slice Try.underlying42 hf with ⟨hcs, _⟩ | ⟨a, len', cap', m, n, D, Pl, hcs, _, hl, hm, hmm, _, hi⟩
  · simp [Value.cells] at hcs
    obtain ⟨rfl, rfl, rfl⟩ := hcs
    exact ⟨none, 0, [], rfl, .inl rfl, fun y hy => by cases hy⟩
  · simp [Value.cells] at hcs
    obtain ⟨rfl, rfl, rfl⟩ := hcs
    rw [if_pos rfl] at hmm
    obtain ⟨ys, e1, e2, e3⟩ := list_of (c := Tr.cA) (m := 5) (P := fun y => (0 ≤ y.1 ∧ y.1 ≤ 255) ∧ y.2.1.I ∧ In64 y.2.2) (W := W) (a := a) (len := len) (by decide) (fun _ => rfl) (fun i hil => by
      obtain ⟨cs', hc, ht⟩ := hi i (by omega)
      rw [cellsAct] at hc
      obtain ⟨y, rfl, b1⟩ := act_cells ht
      obtain ⟨_, hlen, hat⟩ := World.cells?_some hc
      refine ⟨y, fun r u hu => ?_, b1⟩
      have hr := (List.getElem?_eq_some_iff.1 hu).1
      rw [← hu]
      exact hat r hr)
    exact ⟨some a, cap, ys, by rw [e1], e2, e3⟩
end Go.Proofs.Ytibphmddepfgjaa
