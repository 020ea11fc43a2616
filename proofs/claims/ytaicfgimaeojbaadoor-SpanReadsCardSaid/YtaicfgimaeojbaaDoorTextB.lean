/-
  What the library's functions on texts want of a world, and strconv.Itoa over this seat's translation; the text of a time as a list of bytes. Conditions: those that each theorem states.
-/
import Derived.Test.YtaicfgimaeojbaaDoorTextA
import Derived.Test.YtaicfgimaeojbaaDoorShelfA
namespace Go.Proofs.YtaicfgimaeojbaaDoor
open Go.RowKit

/-- What the library's functions on texts read of the variables that the program lays. -/
structure Env (w : World) : Prop where
  tab : Lib.TabIs Tryd.prog w "internal/strconv.uint64pow10" .u64 Lib.pow10Tab
  len : ∃ m, w.cell? ⟨1, 0, none⟩ = some (.int .i64 m)
  syn : ∃ ev, w.cell? ⟨2, 0, none⟩ = some ev ∧ (ev = .nilIface ∨ ∃ te pe, ev = .iface te pe)
  rng : ∃ ev, w.cell? ⟨3, 0, none⟩ = some ev ∧ (ev = .nilIface ∨ ∃ te pe, ev = .iface te pe)
theorem Env.keep {w w' : World} (h : Env w) (hb : Below w.heap.size w w') : Env w' := by
  obtain ⟨t, ⟨m, h1⟩, ⟨e2, h2, k2⟩, ⟨e3, h3, k3⟩⟩ := h
  refine ⟨?_, ⟨m, keepc hb h1⟩, ⟨e2, keepc hb h2, k2⟩, ⟨e3, keepc hb h3, k3⟩⟩
  unfold Lib.TabIs World.var? at *
  cases hg : Tryd.prog.globalNamed "internal/strconv.uint64pow10" with
  | none => rw [hg] at t; simp at t
  | some g =>
    rw [hg] at t
    simp only [Option.bind_some] at t ⊢
    cases hh : w.heap[g]? with
    | none => rw [hh] at t; simp at t
    | some o =>
      have hlt : g < w.heap.size := (Array.getElem?_eq_some_iff.1 hh).1
      rw [hb.block g hlt]
      exact t

theorem below_grow (w : World) (k : Nat) (os : Array Obj) : Below w.heap.size w (Go.Sort.grow (w.drewN k) os) := by
  refine ⟨rfl, rfl, rfl, ?_, fun i hi => ?_⟩
  · show w.heap.size ≤ (w.heap ++ os).size
    simp
  · show (w.heap ++ os)[i]? = w.heap[i]?
    rw [Array.getElem?_append_left hi]

theorem itoa_c (n : Int) (h0 : 0 ≤ n) (h1 : n ≤ 9223372036854775807) (w : World) (h : Env w) :
    Calls Tryd.prog 13 #[.int .i64 n] w fun e w' => e = .returned (.string ⟨(Lib.decDigits n.toNat).toArray⟩) ∧ Below w.heap.size w w' := by
  refine (Tryd.strconv_Itoa n (by omega) h1 w h.tab).mono ?_
  rintro e w' ⟨rfl, k, os, rfl⟩
  refine ⟨?_, below_grow w k os⟩
  unfold Lib.itoa
  rw [if_neg (by omega)]

/-- The text of a right time. -/
def textL (n d : Int) : List UInt8 :=
  if isNever n d then [110, 101, 118, 101, 114] else if d = 1 then Lib.decDigits n.toNat else Lib.decDigits n.toNat ++ (47 :: Lib.decDigits d.toNat)
end Go.Proofs.YtaicfgimaeojbaaDoor
