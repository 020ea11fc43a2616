/-
  What the laws of layer 7 want of a track, said of any description of how it lies in memory: its contracts, from a footprint; rows of stamps. No condition but those that each theorem states.
-/
import Derived.Test.YtibphmddepfgjaaR7C
namespace Go.Proofs.Ytibphmddepfgjaa.Tr
open Go.RowKit Go.Shelf Go.Lib Go.Sort

def cSp (s : Sp) : List Value := [.int .i64 s.1, .int .i64 s.2.1, .int .i64 s.2.2]
def cIn (x : Int) : List Value := [.int .i64 x]
theorem flatG_len {α : Type} {c : α → List Value} {m : Nat} (hc : ∀ x, (c x).length = m) : ∀ L : List α, (L.flatMap c).length = L.length * m
  | [] => by simp
  | e :: L => by
    rw [List.flatMap_cons, List.length_append, flatG_len hc L, hc, List.length_cons, Nat.add_mul]
    omega
theorem flatG_at {α : Type} {c : α → List Value} {m : Nat} (hc : ∀ x, (c x).length = m) : ∀ {L : List α} {i : Nat} {e : α}, L[i]? = some e → ∀ {j : Nat} {v : Value}, (c e)[j]? = some v → (L.flatMap c)[i * m + j]? = some v
  | [], i, e, h, j, v, _ => by simp at h
  | a :: L, 0, e, h, j, v, hj => by
    obtain rfl : a = e := by simpa using h
    rw [List.flatMap_cons, List.getElem?_append_left (by have := (List.getElem?_eq_some_iff.1 hj).1; omega), show 0 * m + j = j from by omega]
    exact hj
  | a :: L, i + 1, e, h, j, v, hj => by
    rw [List.flatMap_cons, List.getElem?_append_right (by rw [hc, Nat.add_mul]; omega), hc, show (i + 1) * m + j - m = i * m + j from by rw [Nat.add_mul]; omega]
    exact flatG_at hc (by simpa using h) hj
/-- A stamp of a list in memory. -/
theorem stampAt {W : World} {p : Option Addr} {L : List Sp} {i : Nat} {s : Sp} (h : InList cSp W p L) (hi : L[i]? = some s) : ∃ g off, p = some ⟨g, off, none⟩ ∧ W.cell? ⟨g, off + i * 3, none⟩ = some (.int .i64 s.1) ∧ W.cell? ⟨g, off + i * 3 + 1, none⟩ = some (.int .i64 s.2.1) ∧ W.cell? ⟨g, off + i * 3 + 2, none⟩ = some (.int .i64 s.2.2) := by
  rcases h with rfl | ⟨g, off, hp, h⟩
  · simp at hi
  · exact ⟨g, off, hp, h (i * 3 + 0) _ (flatG_at (m := 3) (fun _ => rfl) hi (j := 0) rfl), by rw [Nat.add_assoc]; exact h (i * 3 + 1) _ (flatG_at (m := 3) (fun _ => rfl) hi (j := 1) rfl), by rw [Nat.add_assoc]; exact h (i * 3 + 2) _ (flatG_at (m := 3) (fun _ => rfl) hi (j := 2) rfl)⟩
/-- A number of a list in memory. -/
theorem numAt {W : World} {p : Option Addr} {L : List Int} {i : Nat} {x : Int} (h : InList cIn W p L) (hi : L[i]? = some x) : ∃ g off, p = some ⟨g, off, none⟩ ∧ W.cell? ⟨g, off + i, none⟩ = some (.int .i64 x) := by
  rcases h with rfl | ⟨g, off, hp, h⟩
  · simp at hi
  · have := h (i * 1 + 0) _ (flatG_at (m := 1) (fun _ => rfl) hi (j := 0) rfl)
    exact ⟨g, off, hp, by rw [show off + i = off + (i * 1 + 0) from by omega]; exact this⟩
/-- A row of one's own that holds stamps. -/
abbrev RowS (W : World) (B : Nat) (v : Value) (L : List Sp) : Prop := W.ownsRow B 26 3 v L.length (L.flatMap cSp)
theorem RowS.form {W : World} {B : Nat} {v : Value} {L : List Sp} (h : RowS W B v L) : ∃ p cap, v = .slice p L.length cap ∧ InList cSp W p L := by
  rcases h.2 with ⟨e, e2⟩ | ⟨g, cap, cur, e, hB, hg, rest⟩
  · refine ⟨none, 0, ?_, .inl ?_⟩
    · rw [e]
      congr 1
      first | exact e2.symm | omega
    · have : L.length = 0 := by first | exact e2 | omega
      exact List.length_eq_zero_iff.1 this
  · refine ⟨some ⟨g, 0, none⟩, cap, e, .inr ⟨g, 0, rfl, fun j u hu => ?_⟩⟩
    have hc := h.cells (g := g) (by rw [e]; rfl) j u hu
    rw [addE] at hc
    exact hc
theorem RowS.snoc {W : World} {B : Nat} {v : Value} {L : List Sp} {e : Sp} (h : W.ownsRow B 26 3 v (L.length + 1) (L.flatMap cSp ++ cSp e)) : RowS W B v (L ++ [e]) := by
  unfold RowS
  rw [List.flatMap_append, List.length_append]
  simpa using h
theorem infoS : (Try.prog.info? 26).map (fun i => (i.zero, i.size, i.bytes)) = some (some (.agg #[.int .i64 0, .int .i64 0, .int .i64 0]), 3, 24) := by kernel_rfl

/-- What a call leaves that turns no blocks but those of F. -/
structure Leaves (F : Nat → Prop) (W W' : World) : Prop where
  os : W'.os = W.os
  tape : W'.tape = W.tape
  output : W'.output = W.output
  size : W.heap.size ≤ W'.heap.size
  same : ∀ b, b < W.heap.size → ¬ F b → W'.heap[b]? = W.heap[b]?
theorem Leaves.below {F : Nat → Prop} {w W W' : World} (h : Leaves F W W') (hF : ∀ x, F x → w.heap.size ≤ x) (hb : Below w.heap.size w W) : Below w.heap.size w W' :=
  ⟨h.os.trans hb.os, h.tape.trans hb.tape, h.output.trans hb.output, Nat.le_trans hb.size h.size, fun j hj => (h.same j (by have := hb.size; omega) fun k => by have := hF j k; omega).trans (hb.block j hj)⟩
theorem Leaves.trans {F : Nat → Prop} {A B C : World} (h : Leaves F A B) (k : Leaves F B C) : Leaves F A C :=
  ⟨k.os.trans h.os, k.tape.trans h.tape, k.output.trans h.output, Nat.le_trans h.size k.size, fun b hb hn => (k.same b (by have := h.size; omega) hn).trans (h.same b hb hn)⟩
theorem Leaves.of {F : Nat → Prop} {W W' : World} (h : Below W.heap.size W W') : Leaves F W W' := ⟨h.os, h.tape, h.output, h.size, fun b hb _ => h.block b hb⟩
/-- A row apart from a footprint stays. -/
theorem Leaves.row {F : Nat → Prop} {W W' : World} {B n sz : Nat} {t : TypeId} {v : Value} {xs : List Value} (h : Leaves F W W') (hr : W.ownsRow B t sz v n xs) (ha : ∀ g, v.ownBlock = some g → ¬ F g) : W'.ownsRow B t sz v n xs := ownsRow_keep hr fun g e => h.same g (hr.lt g e).2 (ha g e)
/-- What is new, or was there. -/
abbrev Within (F F' : Nat → Prop) (W : World) : Prop := ∀ y, F' y → F y ∨ W.heap.size ≤ y
theorem Within.apart {F F' : Nat → Prop} {W : World} {B n sz : Nat} {t : TypeId} {v : Value} {xs : List Value} (h : Within F F' W) (hr : W.ownsRow B t sz v n xs) (ha : ∀ g, v.ownBlock = some g → ¬ F g) : ∀ g, v.ownBlock = some g → ¬ F' g := fun g e k => by
  rcases h g k with h | h
  · exact ha g e h
  · have := (hr.lt g e).2
    omega

/-- What At finds: the last that is not greater. -/
def upL (L : List En) (s : Sp) : List En := lessL L s ++ levL L s
def atB (L : List En) (s : Sp) : Bool := s.R && !(upL L s).isEmpty
def atE (L : List En) (s : Sp) : En := if atB L s = true then (upL L s).getLastD ((0, 0, 0), 0) else ((0, 0, 0), 0)
/-- HOW A TRACK LIES IN MEMORY: 'Tk W b k L F': in the block b the track with room for k, of the entries L; F: the blocks that its calls may turn. -/
structure TkC (Tk : World → Nat → Nat → List En → (Nat → Prop) → Prop) : Prop where
  ok : ∀ {W b k L F}, Tk W b k L F → 1 ≤ k ∧ k ≤ 1048576 ∧ L.length ≤ k ∧ Rise L ∧ ∀ e ∈ L, e.1.I ∧ In64 e.2
  lt : ∀ {W b k L F}, Tk W b k L F → ∀ x, F x → x < W.heap.size
  keep : ∀ {W W' b k L F}, Tk W b k L F → W.heap.size ≤ W'.heap.size → (∀ x, F x → W'.heap[x]? = W.heap[x]?) → Tk W' b k L F
  new : ∀ (k : Nat) (W : World), 1 ≤ k → k ≤ 1048576 → Calls Try.prog 9 #[.int .i64 (k : Int)] W fun e W' => ∃ b F, e = .returned (.tuple #[.pointer (some ⟨b, 0, none⟩), .int .i64 0]) ∧ Tk W' b k [] F ∧ (∀ x, F x → W.heap.size ≤ x) ∧ Below W.heap.size W W'
  newNo : ∀ (k : Int) (W : World), In64 k → ¬ (1 ≤ k ∧ k ≤ 1048576) → Calls Try.prog 9 #[.int .i64 k] W fun e W' => e = .returned (.tuple #[.pointer none, .int .i64 1]) ∧ Below W.heap.size W W'
  at_ : ∀ {W b k L F} (s : Sp), Tk W b k L F → s.I → Calls Try.prog 20 #[.pointer (some ⟨b, 0, none⟩), s.v] W fun e W' => e = .returned (.tuple #[(atE L s).1.v, .int .i64 (atE L s).2, .bool (atB L s)]) ∧ Below W.heap.size W W'
  put : ∀ {W b k L F} (s : Sp) (x : Int), Tk W b k L F → s.I → In64 x → Calls Try.prog 10 #[.pointer (some ⟨b, 0, none⟩), s.v, .int .i64 x] W fun e W' => e = .returned (.int .i64 (putE k L s)) ∧ ∃ F', Tk W' b k (putL k L s x) F' ∧ Within F F' W ∧ Leaves F W W'
  set : ∀ {W b k L F} (s : Sp) (x : Int), Tk W b k L F → s.I → In64 x → Calls Try.prog 19 #[.pointer (some ⟨b, 0, none⟩), s.v, .int .i64 x] W fun e W' => e = .returned (.bool (setB L s)) ∧ ∃ F', Tk W' b k (setL L s x) F' ∧ Within F F' W ∧ Leaves F W W'
  back : ∀ {W b k L F} (s : Sp), Tk W b k L F → s.I → Calls Try.prog 13 #[.pointer (some ⟨b, 0, none⟩), s.v] W fun e W' => ∃ p cap F', e = .returned (.slice p (backX L s).length cap) ∧ InList cIn W' p (backX L s) ∧ (∀ g off, p = some ⟨g, off, none⟩ → (backX L s) ≠ [] → ¬ F' g ∧ (F g ∨ W.heap.size ≤ g)) ∧ Tk W' b k (backL L s) F' ∧ Within F F' W ∧ Leaves F W W'
  free : ∀ {W b k L F} (s : Sp), Tk W b k L F → s.I → Calls Try.prog 21 #[.pointer (some ⟨b, 0, none⟩), s.v] W fun e W' => ∃ p cap F', e = .returned (.slice p (freeX L s).length cap) ∧ InList cIn W' p (freeX L s) ∧ (∀ g off, p = some ⟨g, off, none⟩ → (freeX L s) ≠ [] → ¬ F' g ∧ (F g ∨ W.heap.size ≤ g)) ∧ Tk W' b k (freeL L s) F' ∧ Within F F' W ∧ Leaves F W W'
  len : ∀ {W b k L F}, Tk W b k L F → Calls Try.prog 14 #[.pointer (some ⟨b, 0, none⟩)] W fun e W' => e = .returned (.int .i64 (L.length : Int)) ∧ Below W.heap.size W W'
  all : ∀ {W b k L F}, Tk W b k L F → Calls Try.prog 23 #[.pointer (some ⟨b, 0, none⟩)] W fun e W' => ∃ gf lb, e = .returned (.func (.func gf) #[] lb) ∧ (∀ args w, (callFunc gf args).run Try.prog w = .ok (.enter gf args) w) ∧ Below W.heap.size W W' ∧ SeqP gf lb L.length (fun j => #[(gE L j).1.v, .int .i64 (gE L j).2]) (fun _ => False) W'
  told : ∀ {W b k L F}, Tk W b k L F → Calls Try.prog 12 #[.pointer (some ⟨b, 0, none⟩)] W fun e W' => ∃ v, e = .returned v ∧ RowE W' W.heap.size v L ∧ Below W.heap.size W W'

/-- A law's track. -/
structure Law (Tk : World → Nat → Nat → List En → (Nat → Prop) → Prop) (w : World) (b k : Nat) (L : List En) (F : Nat → Prop) (W : World) : Prop where
  tk : Tk W b k L F
  lo : ∀ x, F x → w.heap.size ≤ x
  below : Below w.heap.size w W
theorem Law.keep {Tk : World → Nat → Nat → List En → (Nat → Prop) → Prop} (C : TkC Tk) {w W W' : World} {b k : Nat} {L : List En} {F : Nat → Prop} (h : Law Tk w b k L F W) (hb : Below W.heap.size W W') : Law Tk w b k L F W' :=
  ⟨C.keep h.tk hb.size fun x hx => hb.block x (C.lt h.tk x hx), h.lo, bT' h.below hb h.below.size⟩
theorem Law.turn {Tk : World → Nat → Nat → List En → (Nat → Prop) → Prop} {w W W' : World} {b k : Nat} {L L' : List En} {F F' : Nat → Prop} (h : Law Tk w b k L F W) (h1 : Tk W' b k L' F') (h2 : Within F F' W) (h3 : Leaves F W W') : Law Tk w b k L' F' W' :=
  ⟨h1, fun x hx => by
    rcases h2 x hx with h4 | h4
    · exact h.lo x h4
    · exact Nat.le_trans h.below.size h4, h3.below h.lo h.below⟩
/-- A row of the law's own grows. -/
theorem Law.grow {Tk : World → Nat → Nat → List En → (Nat → Prop) → Prop} (C : TkC Tk) {w W W' : World} {b k : Nat} {L : List En} {F : Nat → Prop} {row : Option Nat} (h : Law Tk w b k L F W) (hg : W.grownBy W' row) (ha : ∀ g, row = some g → ¬ F g ∧ w.heap.size ≤ g) : Law Tk w b k L F W' :=
  ⟨C.keep h.tk hg.size fun x hx => hg.block x (C.lt h.tk x hx) fun e => (ha x e.symm).1 hx, h.lo, h.below.grown hg h.below.size fun q e => (ha q e).2⟩
end Go.Proofs.Ytibphmddepfgjaa.Tr
