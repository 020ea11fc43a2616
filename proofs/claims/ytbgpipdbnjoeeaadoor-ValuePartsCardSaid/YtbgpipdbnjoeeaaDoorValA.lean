/-
  Values and types as trees: what stands in memory of a value of package api, read as a tree, and kept from world to world. No condition but those that each theorem states.
-/
import Derived.Test.YtbgpipdbnjoeeaaDoorRows
import Derived.WalkKit
import Derived.WalkSpells
import Derived.WalkLawsBesides
import Derived.BigRegion
import Derived.BigQuiet
import Derived.Outline
import Derived.Lib.Hide
import Derived.Deep.QuietTactic
import Derived.Deep.RegionWith
import Derived.Deep.RegionHeld3
import Derived.Deep.DrawnRows
import Derived.Deep.Slices
import Derived.LoopN
import Derived.ProofKit
import Derived.OpenShut
namespace Go.Proofs.YtbgpipdbnjoeeaaDoor
open Go.RowKit Go.ChangeShapes Go.WideShapes Go.ChangeAt Go.Deep

abbrev I64 (x : Int) : Prop := -9223372036854775808 ≤ x ∧ x ≤ 9223372036854775807

theorem kc {w w' : World} (h : Below w.heap.size w w') {p : Addr} {v : Value} (hc : w.cell? p = some v) : w'.cell? p = some v := (h.cell (World.block_lt_of_cell? w _ hc)).trans hc
theorem kf {w w' : World} (h : Below w.heap.size w w') {p : Addr} {v : Value} (hc : w.cell? p = some v) {b : Bool} (hf : w.frozen? p = b) : w'.frozen? p = b := (h.frozen (World.block_lt_of_cell? w _ hc)).trans hf
theorem bN {B : Nat} {a w : World} (h : Below B a w) (n : Nat) : Below B a (w.drewN n) := ⟨h.os, h.tape, h.output, h.size, h.block⟩
theorem bA {a w : World} (h : Below a.heap.size a w) (o : Obj) : Below a.heap.size a (w.alloc o) := h.alloc h.size o
theorem bT {a w w' : World} (h : Below a.heap.size a w) (k : Below w.heap.size w w') : Below a.heap.size a w' := h.trans (k.mono h.size)
theorem bS {B : Nat} {a w : World} (h : Below B a w) {p : Addr} (hp : B ≤ p.block) (v : Value) : Below B a (w.setCell p v) := h.setCell hp v

/-- A value as a tree: its kind, its number, its text, its items. -/
inductive VT where
  | mk (k n : Int) (s : ByteArray) (len : Nat) (kids : Fin len → VT)
namespace VT
def k : VT → Int | .mk k _ _ _ _ => k
def n : VT → Int | .mk _ n _ _ _ => n
def s : VT → ByteArray | .mk _ _ s _ _ => s
def len : VT → Nat | .mk _ _ _ l _ => l
def leaf : VT := .mk 0 0 ⟨#[]⟩ 0 nofun
def kid : VT → Nat → VT | .mk _ _ _ l f, i => if h : i < l then f ⟨i, h⟩ else leaf
theorem kid_mk {k n : Int} {s : ByteArray} {l : Nat} {f : Fin l → VT} {i : Nat} (h : i < l) : (VT.mk k n s l f).kid i = f ⟨i, h⟩ := dif_pos h
/-- Induction: what holds of a tree if it holds of its items. -/
theorem ind {p : VT → Prop} (h : ∀ t, (∀ i, i < t.len → p (t.kid i)) → p t) : ∀ t, p t := by
  intro t
  induction t with
  | mk k n s l f ih => exact h _ fun i (hi : i < l) => by rw [kid_mk hi]; exact ih _

/-- The slice value of a tree's root leads to its items. -/
def In (w : World) : VT → Value → Prop
  | .mk k n s len kids, sl => I64 k ∧ I64 n ∧ s.size ≤ 9223372036854775807 ∧ len ≤ 9223372036854775807 ∧ ∃ (p : Option Addr) (cap : Nat), sl = .slice p len cap ∧ len ≤ cap ∧ cap ≤ 9223372036854775807 ∧
      (0 < len → ∃ b o, p = some ⟨b, o, none⟩ ∧ ∀ i (h : i < len), ∃ sl', w.cell? ⟨b, o + i * 4, none⟩ = some (.int .i64 (kids ⟨i, h⟩).k) ∧ w.cell? ⟨b, o + i * 4 + 1, none⟩ = some (.int .i64 (kids ⟨i, h⟩).n) ∧
        w.cell? ⟨b, o + i * 4 + 2, none⟩ = some (.string (kids ⟨i, h⟩).s) ∧ w.cell? ⟨b, o + i * 4 + 3, none⟩ = some sl' ∧ In w (kids ⟨i, h⟩) sl')
/-- Four cells that hold a tree's root, and the slice value among them. -/
def Cell4 (w : World) (b o : Nat) (t : VT) (sl : Value) : Prop :=
  w.cell? ⟨b, o, none⟩ = some (.int .i64 t.k) ∧ w.cell? ⟨b, o + 1, none⟩ = some (.int .i64 t.n) ∧ w.cell? ⟨b, o + 2, none⟩ = some (.string t.s) ∧ w.cell? ⟨b, o + 3, none⟩ = some sl
theorem Cell4.keep {w w' : World} (hb : Below w.heap.size w w') {b o : Nat} {t : VT} {sl : Value} (h : Cell4 w b o t sl) : Cell4 w' b o t sl := ⟨kc hb h.1, kc hb h.2.1, kc hb h.2.2.1, kc hb h.2.2.2⟩
/-- The items of a tree, as they lie behind the slice value. -/
theorem In.out {w : World} : ∀ {t : VT} {sl : Value}, In w t sl → I64 t.k ∧ I64 t.n ∧ t.s.size ≤ 9223372036854775807 ∧ t.len ≤ 9223372036854775807 ∧ ∃ (p : Option Addr) (cap : Nat), sl = .slice p t.len cap ∧ t.len ≤ cap ∧ cap ≤ 9223372036854775807 ∧
      (0 < t.len → ∃ b o, p = some ⟨b, o, none⟩ ∧ ∀ i, i < t.len → ∃ sl', Cell4 w b (o + i * 4) (t.kid i) sl' ∧ In w (t.kid i) sl')
  | .mk k n s len kids, sl, h => by
    obtain ⟨h1, h2, h3, h4, p, cap, hsl, hcap, hsz, hi⟩ := h
    refine ⟨h1, h2, h3, h4, p, cap, hsl, hcap, hsz, fun hl => ?_⟩
    obtain ⟨b, o, hp, hi⟩ := hi hl
    refine ⟨b, o, hp, fun i (hil : i < len) => ?_⟩
    obtain ⟨sl', c0, c1, c2, c3, hk⟩ := hi i hil
    exact ⟨sl', by rw [kid_mk hil]; exact ⟨c0, c1, c2, c3⟩, by rw [kid_mk hil]; exact hk⟩
theorem In.mk {w : World} {t : VT} {sl : Value} (h1 : I64 t.k) (h2 : I64 t.n) (h3 : t.s.size ≤ 9223372036854775807) (h4 : t.len ≤ 9223372036854775807) {p : Option Addr} {cap : Nat} (hsl : sl = .slice p t.len cap) (hlc : t.len ≤ cap) (hcap : cap ≤ 9223372036854775807)
    (hi : 0 < t.len → ∃ b o, p = some ⟨b, o, none⟩ ∧ ∀ i, i < t.len → ∃ sl', Cell4 w b (o + i * 4) (t.kid i) sl' ∧ In w (t.kid i) sl') : In w t sl := by
  cases t with
  | mk k n s len kids =>
    refine ⟨h1, h2, h3, h4, p, cap, hsl, hlc, hcap, fun hl => ?_⟩
    obtain ⟨b, o, hp, hi⟩ := hi hl
    refine ⟨b, o, hp, fun i (hil : i < len) => ?_⟩
    obtain ⟨sl', ⟨c0, c1, c2, c3⟩, hk⟩ := hi i hil
    rw [kid_mk hil] at c0 c1 c2 hk
    exact ⟨sl', c0, c1, c2, c3, hk⟩
theorem keep {w w' : World} (hb : Below w.heap.size w w') : ∀ (t : VT) (sl : Value), In w t sl → In w' t sl := by
  intro t
  induction t using ind with
  | h t ih =>
    intro sl h
    obtain ⟨h1, h2, h3, h4, p, cap, hsl, hlc, hcap, hi⟩ := h.out
    refine In.mk h1 h2 h3 h4 hsl hlc hcap fun hl => ?_
    obtain ⟨b, o, hp, hi⟩ := hi hl
    refine ⟨b, o, hp, fun i hil => ?_⟩
    obtain ⟨sl', c, hk⟩ := hi i hil
    exact ⟨sl', c.keep hb, ih i hil sl' hk⟩
/-- A tree's root by value. -/
abbrev val (t : VT) (sl : Value) : Value := .agg #[.int .i64 t.k, .int .i64 t.n, .string t.s, sl]
end VT

/-- A type as a tree. -/
inductive TT where
  | mk (k : Int) (len : Nat) (kids : Fin len → TT)
namespace TT
def k : TT → Int | .mk k _ _ => k
def len : TT → Nat | .mk _ l _ => l
def leaf : TT := .mk 0 0 nofun
def kid : TT → Nat → TT | .mk _ l f, i => if h : i < l then f ⟨i, h⟩ else leaf
theorem kid_mk {k : Int} {l : Nat} {f : Fin l → TT} {i : Nat} (h : i < l) : (TT.mk k l f).kid i = f ⟨i, h⟩ := dif_pos h
theorem ind {p : TT → Prop} (h : ∀ t, (∀ i, i < t.len → p (t.kid i)) → p t) : ∀ t, p t := by
  intro t
  induction t with
  | mk k l f ih => exact h _ fun i (hi : i < l) => by rw [kid_mk hi]; exact ih _
def In (w : World) : TT → Value → Prop
  | .mk k len kids, sl => I64 k ∧ len ≤ 9223372036854775807 ∧ ∃ (p : Option Addr) (cap : Nat), sl = .slice p len cap ∧ len ≤ cap ∧ cap ≤ 9223372036854775807 ∧
      (0 < len → ∃ b o, p = some ⟨b, o, none⟩ ∧ ∀ i (h : i < len), ∃ sl', w.cell? ⟨b, o + i * 2, none⟩ = some (.int .i64 (kids ⟨i, h⟩).k) ∧ w.cell? ⟨b, o + i * 2 + 1, none⟩ = some sl' ∧ In w (kids ⟨i, h⟩) sl')
def Cell2 (w : World) (b o : Nat) (t : TT) (sl : Value) : Prop := w.cell? ⟨b, o, none⟩ = some (.int .i64 t.k) ∧ w.cell? ⟨b, o + 1, none⟩ = some sl
theorem Cell2.keep {w w' : World} (hb : Below w.heap.size w w') {b o : Nat} {t : TT} {sl : Value} (h : Cell2 w b o t sl) : Cell2 w' b o t sl := ⟨kc hb h.1, kc hb h.2⟩
theorem In.out {w : World} : ∀ {t : TT} {sl : Value}, In w t sl → I64 t.k ∧ t.len ≤ 9223372036854775807 ∧ ∃ (p : Option Addr) (cap : Nat), sl = .slice p t.len cap ∧ t.len ≤ cap ∧ cap ≤ 9223372036854775807 ∧
      (0 < t.len → ∃ b o, p = some ⟨b, o, none⟩ ∧ ∀ i, i < t.len → ∃ sl', Cell2 w b (o + i * 2) (t.kid i) sl' ∧ In w (t.kid i) sl')
  | .mk k len kids, sl, h => by
    obtain ⟨h1, h4, p, cap, hsl, hcap, hsz, hi⟩ := h
    refine ⟨h1, h4, p, cap, hsl, hcap, hsz, fun hl => ?_⟩
    obtain ⟨b, o, hp, hi⟩ := hi hl
    refine ⟨b, o, hp, fun i (hil : i < len) => ?_⟩
    obtain ⟨sl', c0, c3, hk⟩ := hi i hil
    exact ⟨sl', by rw [kid_mk hil]; exact ⟨c0, c3⟩, by rw [kid_mk hil]; exact hk⟩
theorem In.mk {w : World} {t : TT} {sl : Value} (h1 : I64 t.k) (h4 : t.len ≤ 9223372036854775807) {p : Option Addr} {cap : Nat} (hsl : sl = .slice p t.len cap) (hlc : t.len ≤ cap) (hcap : cap ≤ 9223372036854775807)
    (hi : 0 < t.len → ∃ b o, p = some ⟨b, o, none⟩ ∧ ∀ i, i < t.len → ∃ sl', Cell2 w b (o + i * 2) (t.kid i) sl' ∧ In w (t.kid i) sl') : In w t sl := by
  cases t with
  | mk k len kids =>
    refine ⟨h1, h4, p, cap, hsl, hlc, hcap, fun hl => ?_⟩
    obtain ⟨b, o, hp, hi⟩ := hi hl
    refine ⟨b, o, hp, fun i (hil : i < len) => ?_⟩
    obtain ⟨sl', ⟨c0, c3⟩, hk⟩ := hi i hil
    rw [kid_mk hil] at c0 hk
    exact ⟨sl', c0, c3, hk⟩
theorem keep {w w' : World} (hb : Below w.heap.size w w') : ∀ (t : TT) (sl : Value), In w t sl → In w' t sl := by
  intro t
  induction t using ind with
  | h t ih =>
    intro sl h
    obtain ⟨h1, h4, p, cap, hsl, hlc, hcap, hi⟩ := h.out
    refine In.mk h1 h4 hsl hlc hcap fun hl => ?_
    obtain ⟨b, o, hp, hi⟩ := hi hl
    refine ⟨b, o, hp, fun i hil => ?_⟩
    obtain ⟨sl', c, hk⟩ := hi i hil
    exact ⟨sl', c.keep hb, ih i hil sl' hk⟩
abbrev val (t : TT) (sl : Value) : Value := .agg #[.int .i64 t.k, sl]
end TT
end Go.Proofs.YtbgpipdbnjoeeaaDoor
