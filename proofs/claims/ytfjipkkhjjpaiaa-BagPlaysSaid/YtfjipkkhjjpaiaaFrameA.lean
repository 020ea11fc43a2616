/-
  The frame of the law over calls: a list of calls opened. No condition but those that each theorem states.
-/
import Derived.Test.YtfjipkkhjjpaiaaFrameB
import Derived.Deep.Slices
namespace Go.Proofs.Ytfjipkkhjjpaiaa
open Go.ChangeShapes Go.WideShapes Go.ChangeAt Go.RowKit Go.Deep

/-- A call: what is done, the item's number, its mark. -/
abbrev Ac := Int × Int × Int
def cA (x : Ac) : List Value := [.int .u8 x.1, .int .i64 x.2.1, .int .i64 x.2.2]
theorem cA_len (x : Ac) : (cA x).length = 3 := rfl
theorem cellsAct : Try.prog.cellsOf 45 = 3 := by kernel_rfl
theorem cellsItem : Try.prog.cellsOf 41 = 2 := by kernel_rfl
theorem spot_none {W : World} {a : Addr} {v : Value} (h : W.cell? a = some v) : a.spot = none := by simpa using World.cell?_spot h

theorem act_cells {H : Type} {enc : TypeId × Value → H} {W : World} {fuel : Nat} {cs : List Value} {x : DataW H × List MemPlace}
    (h : DataW.trod enc Try.prog W 0 (fun _ => true) true fuel 45 cs = some x) : ∃ y : Ac, cs = cA y ∧ 0 ≤ y.1 ∧ y.1 ≤ 255 := by
  obtain ⟨y0, y1, m, rfl, hl, hy0, hy1⟩ := trod_struct2 Try.underlying45 h
  rw [cellsAct] at hl
  match cs, hl with
  | [c0, c1, c2], _ =>
    simp [cellsByte, cellsItem] at hy0 hy1
    obtain ⟨d, e0, rfl, wd⟩ := DataW.trod_int Try.underlying5 hy0
    obtain ⟨z0, z1, m2, rfl, _, hz0, hz1⟩ := trod_struct2 Try.underlying41 hy1
    simp [cellsInt] at hz0 hz1
    obtain ⟨n, e1, rfl, wn⟩ := DataW.trod_int Try.underlying3 hz0
    obtain ⟨k, e2, rfl, wk⟩ := DataW.trod_int Try.underlying3 hz1
    simp at e0 e1 e2
    subst e0 e1 e2
    have h1 : IntKind.u8.min = 0 := by decide
    have h2 : IntKind.u8.max = 255 := by decide
    simp [Lit.wf] at wd
    exact ⟨(d, n, k), rfl, by dsimp only; omega, by dsimp only; omega⟩
theorem acts_open {H : Type} {enc : TypeId × Value → H} {W : World} {b0 : Nat} {v : Value} {d : DataW H} {p : List MemPlace} (hv : Value.okWide Try.prog W .any b0 37 v) (h : DataW.Trod enc Try.prog W 0 (fun _ => true) true 37 v d p) :
    ∃ (q : Option Addr) (cap : Nat) (ys : List Ac), v = .slice q ys.length cap ∧ InList cA W q ys ∧ ys.length ≤ maxLen ∧ ∀ y ∈ ys, 0 ≤ y.1 ∧ y.1 ≤ 255 := by
  obtain ⟨a0, len, cap, rfl⟩ := okWide_slice Try.underlying37 hv
  obtain ⟨fuel, hf⟩ := h
  rcases open_slice Try.underlying37 hf with ⟨hcs, _⟩ | ⟨a, len', cap', m, n, D, Pl, hcs, _, hl, hm, hmm, _, hx⟩
  · simp [Value.cells] at hcs
    obtain ⟨rfl, rfl, rfl⟩ := hcs
    exact ⟨none, 0, [], rfl, .inl rfl, Nat.zero_le _, fun y hy => by cases hy⟩
  · simp [Value.cells] at hcs
    obtain ⟨rfl, rfl, rfl⟩ := hcs
    rw [if_pos rfl] at hmm
    rw [cellsAct] at hx
    have hall : ∀ i, i < len → ∃ y : Ac, (∀ r u, (cA y)[r]? = some u → W.cell? ((a.add (i * 3)).add r) = some u) ∧ 0 ≤ y.1 ∧ y.1 ≤ 255 := by
      intro i hi
      obtain ⟨cs', hc, ht⟩ := hx i (by omega)
      obtain ⟨y, rfl, b1, b2⟩ := act_cells ht
      obtain ⟨_, _, hat⟩ := World.cells?_some hc
      refine ⟨y, fun r u hu => ?_, b1, b2⟩
      have hr := (List.getElem?_eq_some_iff.1 hu).1
      rw [cA_len] at hr
      rw [← hu]
      exact hat r hr
    obtain ⟨f, hf'⟩ := choose_lt hall
    have hlen : ((List.range len).map f).length = len := by simp
    refine ⟨some a, cap, (List.range len).map f, by rw [hlen], ?_, by rw [hlen]; omega, fun y hy => ?_⟩
    · by_cases h0 : len = 0
      · subst h0; exact .inl rfl
      · have hs : a.spot = none := by
          have h1 := (hf' 0 (by omega)).1 0 _ rfl
          have h2 : (a.add (0 * 3)).add 0 = a := by simp [Addr.add]
          rw [h2] at h1
          exact spot_none h1
        obtain ⟨b, o, sp⟩ := a
        simp only at hs
        subst hs
        refine .inr ⟨b, o, rfl, fun j u hu => ?_⟩
        have hj := (List.getElem?_eq_some_iff.1 hu).1
        rw [flat_len cA_len, hlen] at hj
        have hi : j / 3 < len := (Nat.div_lt_iff_lt_mul (by decide)).2 hj
        have hr : j % 3 < 3 := Nat.mod_lt _ (by decide)
        have h1 := flat_get cA_len ((List.range len).map f) (j / 3) (j % 3) (by rw [hlen]; exact hi) hr
        rw [Nat.div_add_mod', hu, List.getElem_map, List.getElem_range] at h1
        have h2 := (hf' (j / 3) hi).1 (j % 3) u h1.symm
        rw [add_add, add_plain, Nat.div_add_mod'] at h2
        exact h2
    · obtain ⟨i, hi, rfl⟩ := List.mem_map.1 hy
      exact (hf' i (List.mem_range.1 hi)).2
end Go.Proofs.Ytfjipkkhjjpaiaa
