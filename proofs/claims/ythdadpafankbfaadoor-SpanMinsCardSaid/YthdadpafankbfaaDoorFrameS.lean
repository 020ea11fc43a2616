/-
  The frame of the laws over slices of times: such a slice opened to its cells. No condition but those that each theorem states.
-/
import Derived.Test.YthdadpafankbfaaDoorFrame
import Derived.Test.YthdadpafankbfaaDoorMinC
import Derived.Deep.Slices
import Derived.Deep.Fields
import Derived.Carry
namespace Go.Proofs.YthdadpafankbfaaDoor
open Go.ChangeShapes Go.WideShapes Go.ChangeAt Go.RowKit Go.Deep
set_option maxRecDepth 100000

theorem laidOut : laidOutB Tryd.prog = true := by kernel_rfl

theorem time_cells {H : Type} {enc : TypeId × Value → H} {W : World} {a : Addr} {cs : List Value} {n : Nat} {x : DataW H × List MemPlace} (hc : W.cells? 0 a 2 = some cs) (h : DataW.trod enc Tryd.prog W 0 (fun _ => true) true n 23 cs = some x) :
    ∃ t : Int × Int, W.cell? a = some (.int .i64 t.1) ∧ W.cell? (a.add 1) = some (.int .i64 t.2) ∧ (Lit.int .i64 t.1).wf = true ∧ (Lit.int .i64 t.2).wf = true := by
  obtain ⟨_, hlen, hat⟩ := World.cells?_some hc
  match cs, hlen with
  | [c0, c1], _ =>
  obtain ⟨y0, y1, m, hx, _, hy0, hy1⟩ := trod_struct2 Tryd.underlying23 h
  obtain ⟨p, e0, _, wa⟩ := DataW.trod_int Tryd.underlying3 hy0
  obtain ⟨q, e1, _, wb⟩ := DataW.trod_int Tryd.underlying3 hy1
  simp [cellsInt] at e0 e1
  subst e0 e1
  have h0 := hat 0 (by omega)
  have h1 := hat 1 (by omega)
  exact ⟨(p, q), by simpa [Addr.add] using h0, by simpa using h1, wa, wb⟩

theorem times_open {H : Type} {enc : TypeId × Value → H} {W : World} {b0 : Nat} {v : Value} {d : DataW H} {p : List MemPlace} (hv : Value.okWide Tryd.prog W .any b0 39 v) (h : DataW.Trod enc Tryd.prog W 0 (fun _ => true) true 39 v d p) :
    (∃ (x : Option Addr) (cap : Nat), v = .slice x 0 cap) ∨
    ∃ (b off len cap : Nat) (f : Nat → Int × Int), v = .slice (some ⟨b, off, none⟩) len cap ∧ len ≤ 9223372036854775807 ∧ (∀ i, i < len → (Lit.int .i64 (f i).1).wf = true ∧ (Lit.int .i64 (f i).2).wf = true) ∧ TimesAt W b off len f := by
  obtain ⟨a0, len, cap, rfl⟩ := okWide_slice Tryd.underlying39 hv
  obtain ⟨fuel, hf⟩ := h
  rcases open_slice Tryd.underlying39 hf with ⟨hcs, _⟩ | ⟨a, len', cap', m, n, D, Pl, hcs, _, hl, hm, hmm, _, hi⟩
  · simp [Value.cells] at hcs
    obtain ⟨_, rfl, _⟩ := hcs
    exact .inl ⟨_, _, rfl⟩
  · simp [Value.cells] at hcs
    obtain ⟨rfl, rfl, rfl⟩ := hcs
    by_cases h0 : len = 0
    · subst h0
      exact .inl ⟨_, _, rfl⟩
    · have hmm2 : m = cap := by simpa using hmm
      have hall : ∀ i, i < len → ∃ t : Int × Int, W.cell? (a.add (i * 2)) = some (.int .i64 t.1) ∧ W.cell? ((a.add (i * 2)).add 1) = some (.int .i64 t.2) ∧ (Lit.int .i64 t.1).wf = true ∧ (Lit.int .i64 t.2).wf = true := by
        intro i hil
        obtain ⟨cs', hc, ht⟩ := hi i (by omega)
        rw [cellsTime] at hc
        exact time_cells hc ht
      obtain ⟨f, hf'⟩ := choose_lt hall
      have hs : a.spot = none := by
        have h1 := (hf' 0 (by omega)).1
        have h2 : a.add (0 * 2) = a := by simp [Addr.add]
        rw [h2] at h1
        unfold World.cell? at h1
        split at h1
        · cases hsp : a.spot with
          | none => rfl
          | some s => simp [hsp] at h1
        · simp at h1
      obtain ⟨b, off, sp⟩ := a
      simp only at hs
      subst hs
      unfold maxLen at hm
      refine .inr ⟨b, off, len, cap, f, rfl, by omega, fun i hil => ⟨(hf' i hil).2.2.1, (hf' i hil).2.2.2⟩, fun i hil => ?_⟩
      have h1 := (hf' i hil).1
      have h2 := (hf' i hil).2.1
      rw [add_add] at h2
      rw [add_plain] at h1 h2
      exact ⟨h1, by rw [Nat.add_assoc]; exact h2⟩
end Go.Proofs.YthdadpafankbfaaDoor
