/-
  The frame of the laws over calls on a queue: a list of calls, a number, a byte opened. No condition but those that each theorem states.
-/
import Derived.Test.YtgolbeoaomgmcaaQuF
import Derived.ProofKit
import Derived.OpenShut
import Derived.Deep.DeepHandedRow
import Derived.Deep.Slices
import Derived.Deep.Strs
namespace Go.Proofs.Ytgolbeoaomgmcaa
open Go.ChangeShapes Go.WideShapes Go.ChangeAt Go.RowKit Go.Deep

abbrev W64 (x : Int) : Prop := (Lit.int .i64 x).wf = true
theorem own : ownKnob Try.prog.godebug = none := by kernel_rfl
theorem laidOut : laidOutB Try.prog = true := by kernel_rfl
theorem cellsInt : Try.prog.cellsOf 3 = 1 := by kernel_rfl
theorem cellsByte : Try.prog.cellsOf 5 = 1 := by kernel_rfl
theorem int_open {H : Type} {enc : TypeId × Value → H} {W : World} {b0 : Nat} {v : Value} {d : DataW H} {p : List MemPlace} (hv : Value.okWide Try.prog W .any b0 3 v) (h : DataW.Trod enc Try.prog W 0 (fun _ => true) true 3 v d p) :
    ∃ n : Int, v = .int .i64 n ∧ W64 n := by
  obtain ⟨an, rfl, rfl, rfl, wa1⟩ := open_int Try.underlying3 hv h
  exact ⟨an, rfl, wa1⟩
theorem byte_open {H : Type} {enc : TypeId × Value → H} {W : World} {b0 : Nat} {v : Value} {d : DataW H} {p : List MemPlace} (hv : Value.okWide Try.prog W .any b0 5 v) (h : DataW.Trod enc Try.prog W 0 (fun _ => true) true 5 v d p) :
    ∃ n : Nat, v = .int .u8 (n : Int) ∧ n ≤ 255 := by
  obtain ⟨an, rfl, rfl, rfl, wa1⟩ := open_int Try.underlying5 hv h
  have hw := wa1
  have h1 : IntKind.u8.min = 0 := by decide
  have h2 : IntKind.u8.max = 255 := by decide
  simp [Lit.wf] at hw
  exact ⟨an.toNat, by congr 1; omega, by omega⟩
/-- A call: what is done, with which number. -/
abbrev Ac := Int × Int
def cA (x : Ac) : List Value := [.int .u8 x.1, .int .i64 x.2]
theorem cA_len (x : Ac) : (cA x).length = 2 := rfl
theorem cellsAct : Try.prog.cellsOf 29 = 2 := by kernel_rfl
theorem spot_none {W : World} {a : Addr} {v : Value} (h : W.cell? a = some v) : a.spot = none := by simpa using World.cell?_spot h

theorem act_cells {H : Type} {enc : TypeId × Value → H} {W : World} {fuel : Nat} {cs : List Value} {x : DataW H × List MemPlace}
    (h : DataW.trod enc Try.prog W 0 (fun _ => true) true fuel 29 cs = some x) : ∃ y : Ac, cs = cA y ∧ 0 ≤ y.1 ∧ y.1 ≤ 255 ∧ W64 y.2 := by
  obtain ⟨y0, y1, m, rfl, hl, hy0, hy1⟩ := trod_struct2 Try.underlying29 h
  rw [cellsAct] at hl
  match cs, hl with
  | [c0, c1], _ =>
    simp [cellsByte, cellsInt] at hy0 hy1
    obtain ⟨d, e0, rfl, wd⟩ := DataW.trod_int Try.underlying5 hy0
    obtain ⟨n, e1, rfl, wn⟩ := DataW.trod_int Try.underlying3 hy1
    simp at e0 e1
    subst e0 e1
    have h1 : IntKind.u8.min = 0 := by decide
    have h2 : IntKind.u8.max = 255 := by decide
    have wd2 := wd
    simp [Lit.wf] at wd2
    exact ⟨(d, n), rfl, by dsimp only; omega, by dsimp only; omega, wn⟩
theorem acts_open {H : Type} {enc : TypeId × Value → H} {W : World} {b0 : Nat} {v : Value} {d : DataW H} {p : List MemPlace} (hv : Value.okWide Try.prog W .any b0 22 v) (h : DataW.Trod enc Try.prog W 0 (fun _ => true) true 22 v d p) :
    ∃ (q : Option Addr) (cap : Nat) (ys : List Ac), v = .slice q ys.length cap ∧ InList cA W q ys ∧ ys.length ≤ maxLen ∧ ∀ y ∈ ys, 0 ≤ y.1 ∧ y.1 ≤ 255 ∧ W64 y.2 := by
  obtain ⟨a0, len, cap, rfl⟩ := okWide_slice Try.underlying22 hv
  obtain ⟨fuel, hf⟩ := h
  rcases open_slice Try.underlying22 hf with ⟨hcs, _⟩ | ⟨a, len', cap', m, n, D, Pl, hcs, _, hl, hm, hmm, _, hx⟩
  · simp [Value.cells] at hcs
    obtain ⟨rfl, rfl, rfl⟩ := hcs
    exact ⟨none, 0, [], rfl, .inl rfl, Nat.zero_le _, fun y hy => by cases hy⟩
  · simp [Value.cells] at hcs
    obtain ⟨rfl, rfl, rfl⟩ := hcs
    rw [if_pos rfl] at hmm
    rw [cellsAct] at hx
    have hall : ∀ i, i < len → ∃ y : Ac, (∀ r u, (cA y)[r]? = some u → W.cell? ((a.add (i * 2)).add r) = some u) ∧ 0 ≤ y.1 ∧ y.1 ≤ 255 ∧ W64 y.2 := by
      intro i hi
      obtain ⟨cs', hc, ht⟩ := hx i (by omega)
      obtain ⟨y, rfl, b1⟩ := act_cells ht
      obtain ⟨_, _, hat⟩ := World.cells?_some hc
      refine ⟨y, fun r u hu => ?_, b1⟩
      have hr := (List.getElem?_eq_some_iff.1 hu).1
      rw [cA_len] at hr
      rw [← hu]
      exact hat r hr
    obtain ⟨f, hf'⟩ := choose_lt hall
    have hlen : ((List.range len).map f).length = len := by simp
    refine ⟨some a, cap, (List.range len).map f, by rw [hlen], ?_, by rw [hlen]; omega, fun y hy => ?_⟩
    · by_cases h0 : len = 0
      · subst h0; exact .inl rfl
      · have hs : a.spot = none := by
          have h1 := (hf' 0 (by omega)).1 0 _ rfl
          have h2 : (a.add (0 * 2)).add 0 = a := by simp [Addr.add]
          rw [h2] at h1
          exact spot_none h1
        obtain ⟨b, o, sp⟩ := a
        simp only at hs
        subst hs
        refine .inr ⟨b, o, rfl, fun j u hu => ?_⟩
        have hj := (List.getElem?_eq_some_iff.1 hu).1
        rw [flat_len cA_len, hlen] at hj
        have hi : j / 2 < len := (Nat.div_lt_iff_lt_mul (by decide)).2 hj
        have hr : j % 2 < 2 := Nat.mod_lt _ (by decide)
        have h1 := flat_get cA_len ((List.range len).map f) (j / 2) (j % 2) (by rw [hlen]; exact hi) hr
        rw [Nat.div_add_mod', hu, List.getElem_map, List.getElem_range] at h1
        have h2 := (hf' (j / 2) hi).1 (j % 2) u h1.symm
        rw [add_add, add_plain, Nat.div_add_mod'] at h2
        exact h2
    · obtain ⟨i, hi, rfl⟩ := List.mem_map.1 hy
      exact (hf' i (List.mem_range.1 hi)).2
theorem InList.acts {W : World} {p : Option Addr} {ys : List Ac} (h : InList cA W p ys) (h0 : 0 < ys.length) : ∃ gl off, p = some ⟨gl, off, none⟩ ∧ ∀ i (hi : i < ys.length), W.cell? ⟨gl, off + i * 2, none⟩ = some (.int .u8 ys[i].1) ∧ W.cell? ⟨gl, off + i * 2 + 1, none⟩ = some (.int .i64 ys[i].2) := by
  rcases h with rfl | ⟨gl, off, rfl, hc⟩
  · simp at h0
  · refine ⟨gl, off, rfl, fun i hi => ⟨?_, ?_⟩⟩
    · exact hc (i * 2) _ (by have := flat_get cA_len ys i 0 hi (by omega); rw [Nat.add_zero] at this; exact this)
    · rw [Nat.add_assoc]; exact hc (i * 2 + 1) _ (flat_get cA_len ys i 1 hi (by omega))
  end Go.Proofs.Ytgolbeoaomgmcaa
