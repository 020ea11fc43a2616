/-
  The frame of the laws over lists of numbers: a list opened. No condition but those that each theorem states.
-/
import Derived.Test.YtfjipkkhjjpaiaaNewI
import Derived.ProofKit
import Derived.OpenShut
import Derived.Deep.DeepHandedRow
namespace Go.Proofs.Ytfjipkkhjjpaiaa
open Go.ChangeShapes Go.WideShapes Go.ChangeAt Go.RowKit

theorem own : ownKnob Try.prog.godebug = none := by kernel_rfl
theorem laidOut : laidOutB Try.prog = true := by kernel_rfl
theorem cellsInt : Try.prog.cellsOf 3 = 1 := by kernel_rfl
theorem cellsByte : Try.prog.cellsOf 5 = 1 := by kernel_rfl

/-- The cell of a byte. -/
def cU (x : Int) : List Value := [.int .u8 x]
theorem nums_in {W : World} {k : IntKind} {a : Addr} {len : Nat} {zs : List Int} (c : Int → List Value) (hc1 : ∀ x, c x = [.int k x]) (hl : len ≤ zs.length) (hcell : ∀ i, i < zs.length → W.cell? (a.add i) = some (.int k (zs.getD i 0))) : InList c W (some a) (zs.take len) := by
  by_cases h0 : len = 0
  · exact .inl (by rw [h0]; rfl)
  · obtain ⟨b, off, rfl, hc⟩ := ints_at hcell (by omega)
    refine .inr ⟨b, off, rfl, fun j u hu => ?_⟩
    have hcl : ∀ x, (c x).length = 1 := fun x => by rw [hc1]; rfl
    have hj : j < (zs.take len).length := by
      have := (List.getElem?_eq_some_iff.1 hu).1
      rwa [flat_len hcl, Nat.mul_one] at this
    have h1 := flat_get hcl (zs.take len) j 0 hj (by omega)
    rw [Nat.mul_one, Nat.add_zero, hu] at h1
    have hj2 : j < zs.length := by rw [List.length_take] at hj; omega
    rw [h1, hc j hj2, hc1, List.getElem_take, List.getD_eq_getElem?_getD, List.getElem?_eq_getElem hj2]
    rfl
theorem ints_open {H : Type} {enc : TypeId × Value → H} {W : World} {b0 : Nat} {v : Value} {d : DataW H} {p : List MemPlace} (hv : Value.okWide Try.prog W .any b0 22 v) (h : DataW.Trod enc Try.prog W 0 (fun _ => true) true 22 v d p) :
    ∃ (q : Option Addr) (cap : Nat) (ys : List Int), v = .slice q ys.length cap ∧ InList cI W q ys ∧ ys.length ≤ maxLen := by
  obtain ⟨a0, len, cap, rfl⟩ := okWide_slice Try.underlying22 hv
  obtain ⟨fuel, hf⟩ := h
  rcases open_ints Try.underlying22 Try.underlying3 cellsInt hf with ⟨hcs, _⟩ | ⟨a, len', cap', zs, hcs, _, hl, hm, hz, _, hcell, _⟩
  · simp [Value.cells] at hcs
    obtain ⟨rfl, rfl, rfl⟩ := hcs
    exact ⟨none, 0, [], rfl, .inl rfl, Nat.zero_le _⟩
  · simp [Value.cells] at hcs
    obtain ⟨rfl, rfl, rfl⟩ := hcs
    rw [if_pos rfl] at hz
    have e : (zs.take len).length = len := by rw [List.length_take]; omega
    exact ⟨some a, cap, zs.take len, by rw [e], nums_in cI (fun _ => rfl) (by omega) hcell, by rw [e]; omega⟩
theorem bytes_open {H : Type} {enc : TypeId × Value → H} {W : World} {b0 : Nat} {v : Value} {d : DataW H} {p : List MemPlace} (hv : Value.okWide Try.prog W .any b0 23 v) (h : DataW.Trod enc Try.prog W 0 (fun _ => true) true 23 v d p) :
    ∃ (q : Option Addr) (cap : Nat) (ys : List Int), v = .slice q ys.length cap ∧ InList cU W q ys ∧ ys.length ≤ maxLen ∧ ∀ y ∈ ys, 0 ≤ y ∧ y ≤ 255 := by
  obtain ⟨a0, len, cap, rfl⟩ := okWide_slice Try.underlying23 hv
  obtain ⟨fuel, hf⟩ := h
  rcases open_ints Try.underlying23 Try.underlying5 cellsByte hf with ⟨hcs, _⟩ | ⟨a, len', cap', zs, hcs, _, hl, hm, hz, _, hcell, hw⟩
  · simp [Value.cells] at hcs
    obtain ⟨rfl, rfl, rfl⟩ := hcs
    exact ⟨none, 0, [], rfl, .inl rfl, Nat.zero_le _, fun y hy => by cases hy⟩
  · simp [Value.cells] at hcs
    obtain ⟨rfl, rfl, rfl⟩ := hcs
    rw [if_pos rfl] at hz
    have e : (zs.take len).length = len := by rw [List.length_take]; omega
    refine ⟨some a, cap, zs.take len, by rw [e], nums_in cU (fun _ => rfl) (by omega) hcell, by rw [e]; omega, fun y hy => ?_⟩
    have hw1 := hw y (List.mem_of_mem_take hy)
    have h1 : IntKind.u8.min = 0 := by decide
    have h2 : IntKind.u8.max = 255 := by decide
    simp [Lit.wf] at hw1
    omega
theorem int_open {H : Type} {enc : TypeId × Value → H} {W : World} {b0 : Nat} {v : Value} {d : DataW H} {p : List MemPlace} (hv : Value.okWide Try.prog W .any b0 3 v) (h : DataW.Trod enc Try.prog W 0 (fun _ => true) true 3 v d p) :
    ∃ n : Int, v = .int .i64 n ∧ -9223372036854775808 ≤ n ∧ n ≤ 9223372036854775807 := by
  obtain ⟨an, rfl, rfl, rfl, wa1⟩ := open_int Try.underlying3 hv h
  have := bounds_i64 wa1
  exact ⟨an, rfl, by omega, by omega⟩
theorem byte_open {H : Type} {enc : TypeId × Value → H} {W : World} {b0 : Nat} {v : Value} {d : DataW H} {p : List MemPlace} (hv : Value.okWide Try.prog W .any b0 5 v) (h : DataW.Trod enc Try.prog W 0 (fun _ => true) true 5 v d p) :
    ∃ n : Nat, v = .int .u8 (n : Int) ∧ n ≤ 255 := by
  obtain ⟨an, rfl, rfl, rfl, wa1⟩ := open_int Try.underlying5 hv h
  have hw := wa1
  have h1 : IntKind.u8.min = 0 := by decide
  have h2 : IntKind.u8.max = 255 := by decide
  simp [Lit.wf] at hw
  exact ⟨an.toNat, by congr 1; omega, by omega⟩
end Go.Proofs.Ytfjipkkhjjpaiaa
