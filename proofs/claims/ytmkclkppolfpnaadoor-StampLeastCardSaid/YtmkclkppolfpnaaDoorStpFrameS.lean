/-
  The frame of layer 6's law over slices of stamps: such a slice opened to its cells. No condition but those that each theorem states.
-/
import Derived.Test.YtmkclkppolfpnaaDoorStpFrame
import Derived.Test.YtmkclkppolfpnaaDoorStpM
namespace Go.Proofs.YtmkclkppolfpnaaDoor
open Go.ChangeShapes Go.WideShapes Go.ChangeAt Go.RowKit Go.Deep
set_option maxRecDepth 100000

theorem choose_ltS {n : Nat} {p : Nat → St → Prop} (h : ∀ i, i < n → ∃ x, p i x) : ∃ f : Nat → St, ∀ i, i < n → p i (f i) :=
  ⟨fun i => if hi : i < n then Classical.choose (h i hi) else (0, 0, 0), fun i hi => by
    dsimp only
    rw [dif_pos hi]
    exact Classical.choose_spec (h i hi)⟩
theorem addS_plain (b off m : Nat) : (⟨b, off, none⟩ : Addr).add m = ⟨b, off + m, none⟩ := by
  unfold Addr.add
  by_cases h : m = 0 <;> simp [h]
theorem stamps_open {H : Type} {enc : TypeId × Value → H} {W : World} {b0 : Nat} {v : Value} {d : DataW H} {p : List MemPlace} (hv : Value.okWide Tryd.prog W .any b0 46 v) (h : DataW.Trod enc Tryd.prog W 0 (fun _ => true) true 46 v d p) :
    ∃ (q : Option Addr) (n cap : Nat) (pl : Nat → St), v = .slice q n cap ∧ (∀ i, i < n → In3S (pl i)) ∧ InS W q n pl := by
  obtain ⟨a0, len, cap, rfl⟩ := okWide_slice Tryd.underlying46 hv
  obtain ⟨fuel, hf⟩ := h
  rcases open_slice Tryd.underlying46 hf with ⟨hcs, _⟩ | ⟨a, len', cap', m, n, D, Pl, hcs, _, hl, hm, hmm, _, hi⟩
  · simp [Value.cells] at hcs
    obtain ⟨_, rfl, _⟩ := hcs
    exact ⟨_, _, _, fun _ => (0, 0, 0), rfl, fun i hi => by omega, fun i hi => by omega⟩
  · simp [Value.cells] at hcs
    obtain ⟨rfl, rfl, rfl⟩ := hcs
    have hmm2 : m = cap := by simpa using hmm
    have hall : ∀ i, i < len → ∃ t : St, (W.cell? ((a.add (i * 3)).add 0) = some (.int .i64 t.1) ∧ W.cell? ((a.add (i * 3)).add 1) = some (.int .i64 t.2.1) ∧ W.cell? ((a.add (i * 3)).add 2) = some (.int .i64 t.2.2)) ∧ In3S t := by
      intro i hil
      obtain ⟨cs', hc, ht⟩ := hi i (by omega)
      rw [cellsStamp] at hc
      obtain ⟨_, hlen, hat⟩ := World.cells?_some hc
      obtain ⟨x, y, z, e, wa, wb, wc⟩ := stamp_cells hlen ht
      subst e
      have h0 := hat 0 (by decide)
      have h1 := hat 1 (by decide)
      have h2 := hat 2 (by decide)
      exact ⟨(x, y, z), ⟨by simpa using h0, by simpa using h1, by simpa using h2⟩, bounds_i64 wa, bounds_i64 wb, bounds_i64 wc⟩
    obtain ⟨f, hf'⟩ := choose_ltS hall
    refine ⟨_, _, _, f, rfl, fun i hil => (hf' i hil).2, fun i hil => ?_⟩
    have h1 := (hf' i hil).1
    have hs : a.spot = none := by
      have h0 := (hf' 0 (by omega)).1.1
      have h2 : (a.add (0 * 3)).add 0 = a := by simp [Addr.add]
      rw [h2] at h0
      unfold World.cell? at h0
      split at h0
      · cases hsp : a.spot with
        | none => rfl
        | some s => simp [hsp] at h0
      · simp at h0
    obtain ⟨b, off, sp⟩ := a
    simp only at hs
    subst hs
    rw [addS_plain, addS_plain, addS_plain, addS_plain] at h1
    exact ⟨b, off, rfl, h1.1, h1.2.1, h1.2.2⟩
end Go.Proofs.YtmkclkppolfpnaaDoor
