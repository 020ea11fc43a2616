/-
  Values and types that came in, opened to trees. No condition but those that each theorem states.
-/
import Derived.Test.YtbgpipdbnjoeeaaDoorValA
import Derived.Carry
namespace Go.Proofs.YtbgpipdbnjoeeaaDoor

open Go.ChangeShapes Go.WideShapes Go.ChangeAt Go.RowKit Go.Deep
set_option maxRecDepth 100000

theorem laidOut : laidOutB Tryd.prog = true := by kernel_rfl
theorem cellsInt : Tryd.prog.cellsOf 3 = 1 := by kernel_rfl
theorem cellsStr : Tryd.prog.cellsOf 9 = 1 := by kernel_rfl
theorem cellsValue : Tryd.prog.cellsOf 24 = 4 := by kernel_rfl
theorem cellsValues : Tryd.prog.cellsOf 22 = 1 := by kernel_rfl

theorem spot_none {w : World} {a : Addr} {v : Value} (h : w.cell? a = some v) : a.spot = none := by
  unfold World.cell? at h
  split at h
  · cases hsp : a.spot with
    | none => rfl
    | some s => simp [hsp] at h
  · simp at h

instance : Inhabited (VT × Value) := ⟨(VT.leaf, .nilFunc)⟩
instance : Inhabited (TT × Value) := ⟨(TT.leaf, .nilFunc)⟩

/-- The cells of a value, opened. -/
theorem value_cells {H : Type} {enc : TypeId × Value → H} {W : World} : ∀ (fuel : Nat) (cs : List Value) (x : DataW H × List MemPlace),
    DataW.trod enc Tryd.prog W 0 (fun _ => true) true fuel 24 cs = some x → ∃ (t : VT) (sl : Value), cs = [.int .i64 t.k, .int .i64 t.n, .string t.s, sl] ∧ VT.In W t sl := by
  intro fuel
  induction fuel using Nat.strongRecOn with
  | _ fuel ih =>
    intro cs x h
    obtain ⟨xs, m, rfl, rfl, hl, hlen, hf⟩ := DataW.trod_struct Tryd.underlying24 h
    rw [cellsValue] at hl
    match xs, hlen, cs, hl with
    | [y0, y1, y2, y3], _, [c0, c1, c2, c3], _ =>
      have g0 := hf 0 _ rfl
      have g1 := hf 1 _ rfl
      have g2 := hf 2 _ rfl
      have g3 := hf 3 _ rfl
      simp [cellsInt, cellsStr, cellsValues] at g0 g1 g2 g3
      obtain ⟨k, e0, _, wk⟩ := DataW.trod_int Tryd.underlying3 g0
      obtain ⟨n, e1, _, wn⟩ := DataW.trod_int Tryd.underlying3 g1
      obtain ⟨s, e2, _, ws⟩ := DataW.trod_string Tryd.underlying9 g2
      simp at e0 e1 e2
      subst e0 e1 e2
      have bk := bounds_i64 wk
      have bn := bounds_i64 wn
      unfold maxLen at ws
      rcases DataW.trod_slice Tryd.underlying22 g3 with ⟨hcs, _⟩ | ⟨a, len, cap, elems, rest, r, hr, hcs, _, _, hlc, hcm, hel, hi, _, _⟩
      · simp at hcs
        subst hcs
        exact ⟨.mk k n s 0 nofun, _, rfl, bk, bn, by omega, by omega, none, 0, rfl, by omega, by omega, by omega⟩
      · simp at hcs
        subst hcs
        unfold maxLen at hcm
        rw [cellsValue] at hi
        have hall : ∀ i, i < len → ∃ x : VT × Value, W.cell? (a.add (i * 4)) = some (.int .i64 x.1.k) ∧ W.cell? ((a.add (i * 4)).add 1) = some (.int .i64 x.1.n) ∧ W.cell? ((a.add (i * 4)).add 2) = some (.string x.1.s) ∧ W.cell? ((a.add (i * 4)).add 3) = some x.2 ∧ VT.In W x.1 x.2 := by
          intro i hil
          have hi := hi i hil
          rw [List.getElem?_eq_getElem (by omega)] at hi
          obtain ⟨cs', hc, ht⟩ := Option.bind_eq_some_iff.1 hi
          obtain ⟨t, sl, rfl, hin⟩ := ih r (by omega) _ _ ht
          obtain ⟨_, _, hat⟩ := World.cells?_some hc
          have h0 := hat 0 (by omega)
          have h1 := hat 1 (by omega)
          have h2 := hat 2 (by omega)
          have h3 := hat 3 (by omega)
          simp at h0 h1 h2 h3
          exact ⟨(t, sl), by simpa [Addr.add] using h0, h1, h2, h3, hin⟩
        obtain ⟨f, hf'⟩ := choose_lt hall
        refine ⟨.mk k n s len (fun i => (f i.val).1), _, rfl, bk, bn, by omega, by omega, some a, cap, rfl, hlc, by omega, fun hl => ?_⟩
        have hs : a.spot = none := by
          have h1 := (hf' 0 hl).1
          have h2 : a.add (0 * 4) = a := by simp [Addr.add]
          rw [h2] at h1
          exact spot_none h1
        obtain ⟨b, o, sp⟩ := a
        simp only at hs
        subst hs
        refine ⟨b, o, rfl, fun i hil => ?_⟩
        obtain ⟨h0, h1, h2, h3, hin⟩ := hf' i hil
        rw [add_plain] at h0
        rw [add_add, add_plain, ← Nat.add_assoc] at h1 h2 h3
        exact ⟨(f i).2, h0, h1, h2, h3, hin⟩

theorem value_open {H : Type} {enc : TypeId × Value → H} {W : World} {b0 : Nat} {v : Value} {d : DataW H} {p : List MemPlace} (hv : Value.okWide Tryd.prog W .any b0 24 v) (h : DataW.Trod enc Tryd.prog W 0 (fun _ => true) true 24 v d p) :
    ∃ (t : VT) (sl : Value), v = t.val sl ∧ VT.In W t sl := by
  obtain ⟨cs, rfl, hsz⟩ := okWide_struct Tryd.underlying24 hv
  rw [cellsValue] at hsz
  obtain ⟨l⟩ := cs
  obtain ⟨fuel, hf⟩ := h
  obtain ⟨t, sl, hcs, hin⟩ := value_cells fuel _ _ hf
  simp [Value.cells] at hcs
  subst hcs
  exact ⟨t, sl, rfl, hin⟩

/-- The cells of a type, opened. -/
theorem cellsType : Tryd.prog.cellsOf 40 = 2 := by kernel_rfl
theorem cellsTypes : Tryd.prog.cellsOf 38 = 1 := by kernel_rfl
theorem type_cells {H : Type} {enc : TypeId × Value → H} {W : World} : ∀ (fuel : Nat) (cs : List Value) (x : DataW H × List MemPlace),
    DataW.trod enc Tryd.prog W 0 (fun _ => true) true fuel 40 cs = some x → ∃ (t : TT) (sl : Value), cs = [.int .i64 t.k, sl] ∧ TT.In W t sl := by
  intro fuel
  induction fuel using Nat.strongRecOn with
  | _ fuel ih =>
    intro cs x h
    obtain ⟨xs, m, rfl, rfl, hl, hlen, hf⟩ := DataW.trod_struct Tryd.underlying40 h
    rw [cellsType] at hl
    match xs, hlen, cs, hl with
    | [y0, y3], _, [c0, c3], _ =>
      have g0 := hf 0 _ rfl
      have g3 := hf 1 _ rfl
      simp [cellsInt, cellsTypes] at g0 g3
      obtain ⟨k, e0, _, wk⟩ := DataW.trod_int Tryd.underlying3 g0
      simp at e0
      subst e0
      have bk := bounds_i64 wk
      rcases DataW.trod_slice Tryd.underlying38 g3 with ⟨hcs, _⟩ | ⟨a, len, cap, elems, rest, r, hr, hcs, _, _, hlc, hcm, hel, hi, _, _⟩
      · simp at hcs
        subst hcs
        exact ⟨.mk k 0 nofun, _, rfl, bk, by omega, none, 0, rfl, by omega, by omega, by omega⟩
      · simp at hcs
        subst hcs
        unfold maxLen at hcm
        rw [cellsType] at hi
        have hall : ∀ i, i < len → ∃ x : TT × Value, W.cell? (a.add (i * 2)) = some (.int .i64 x.1.k) ∧ W.cell? ((a.add (i * 2)).add 1) = some x.2 ∧ TT.In W x.1 x.2 := by
          intro i hil
          have hi := hi i hil
          rw [List.getElem?_eq_getElem (by omega)] at hi
          obtain ⟨cs', hc, ht⟩ := Option.bind_eq_some_iff.1 hi
          obtain ⟨t, sl, rfl, hin⟩ := ih r (by omega) _ _ ht
          obtain ⟨_, _, hat⟩ := World.cells?_some hc
          have h0 := hat 0 (by omega)
          have h3 := hat 1 (by omega)
          simp at h0 h3
          exact ⟨(t, sl), by simpa [Addr.add] using h0, h3, hin⟩
        obtain ⟨f, hf'⟩ := choose_lt hall
        refine ⟨.mk k len (fun i => (f i.val).1), _, rfl, bk, by omega, some a, cap, rfl, hlc, by omega, fun hl => ?_⟩
        have hs : a.spot = none := by
          have h1 := (hf' 0 hl).1
          have h2 : a.add (0 * 2) = a := by simp [Addr.add]
          rw [h2] at h1
          exact spot_none h1
        obtain ⟨b, o, sp⟩ := a
        simp only at hs
        subst hs
        refine ⟨b, o, rfl, fun i hil => ?_⟩
        obtain ⟨h0, h3, hin⟩ := hf' i hil
        rw [add_plain] at h0
        rw [add_add, add_plain, ← Nat.add_assoc] at h3
        exact ⟨(f i).2, h0, h3, hin⟩

theorem type_open {H : Type} {enc : TypeId × Value → H} {W : World} {b0 : Nat} {v : Value} {d : DataW H} {p : List MemPlace} (hv : Value.okWide Tryd.prog W .any b0 40 v) (h : DataW.Trod enc Tryd.prog W 0 (fun _ => true) true 40 v d p) :
    ∃ (t : TT) (sl : Value), v = t.val sl ∧ TT.In W t sl := by
  obtain ⟨cs, rfl, hsz⟩ := okWide_struct Tryd.underlying40 hv
  rw [cellsType] at hsz
  obtain ⟨l⟩ := cs
  obtain ⟨fuel, hf⟩ := h
  obtain ⟨t, sl, hcs, hin⟩ := type_cells fuel _ _ hf
  simp [Value.cells] at hcs
  subst hcs
  exact ⟨t, sl, rfl, hin⟩
end Go.Proofs.YtbgpipdbnjoeeaaDoor
