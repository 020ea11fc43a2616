/-
  Several texts in one: SpanH SpanI SpanJ SpanK.
-/
import Derived.Test.YtibphmddepfgjaaMA
import Derived.Deep.DeepCutAuto

/-
  The contracts of package span over this seat's translation, eighth part: plus, minus. No condition but the bounds that each theorem states.
-/
namespace Go.Proofs.Ytibphmddepfgjaa
open Go.RowKit
attribute [local go_sem ↓] Go.wp_at_zero Go.wp_at_succ

theorem wrap_up (x : Int) (h0 : 18446744073709551616 ≤ x) (h1 : x < 36893488147419103232) : IntKind.u64.wrap x = x - 18446744073709551616 := by rw [IntKind.wrap_u64]; omega
theorem wrap_dn (x : Int) (h0 : x < 0) (h1 : -18446744073709551616 ≤ x) : IntKind.u64.wrap x = x + 18446744073709551616 := by rw [IntKind.wrap_u64]; omega

end Go.Proofs.Ytibphmddepfgjaa

/-
  The contract of package span's divide over this seat's translation: a number of two words by one from 1 to 2^63. No condition but the bounds that each theorem states.
-/
namespace Go.Proofs.Ytibphmddepfgjaa
open Go.RowKit
attribute [local go_sem ↓] Go.wp_at_zero Go.wp_at_succ

theorem or_bit (x b : Int) (h0 : 0 ≤ x) (h1 : x < 9223372036854775808) (hb : b = 0 ∨ b = 1) : bits BinOp.or IntKind.u64 (x * 2) b = x * 2 + b := by
  obtain ⟨n, rfl⟩ := Int.eq_ofNat_of_zero_le h0
  have e : ∀ c : Nat, c < 2 → bits BinOp.or IntKind.u64 ((n : Int) * 2) (c : Int) = (n : Int) * 2 + c := by
    intro c hc
    have e1 : (n : Int) * 2 = ((2 ^ 1 * n : Nat) : Int) := by omega
    rw [e1, orN _ _ (by omega) (by omega), ← Nat.two_pow_add_eq_or_of_lt (show c < 2 ^ 1 by omega) n]
    omega
  rcases hb with rfl | rfl
  · exact e 0 (by omega)
  · exact e 1 (by omega)

theorem top_bit (lo : Int) (h0 : 0 ≤ lo) (h1 : lo ≤ 18446744073709551615) : lo / 9223372036854775808 = 0 ∨ lo / 9223372036854775808 = 1 := by omega
theorem wrap_two (lo : Int) : IntKind.u64.wrap (lo * 2) = lo * 2 - lo / 9223372036854775808 * 18446744073709551616 := by rw [IntKind.wrap_u64]; omega

/-- One round keeps what is left to be divided. -/
theorem round_eq (q d left lo N pw t : Int) (h : (q * d + left) * 18446744073709551616 + lo = N * pw) : ((q * 2) * d + (left * 2 + t)) * 18446744073709551616 + (lo * 2 - t * 18446744073709551616) = N * (pw * 2) := by
  have e : N * (pw * 2) = (N * pw) * 2 := by rw [Int.mul_assoc]
  have e2 : q * 2 * d = q * d * 2 := by rw [Int.mul_assoc, Int.mul_comm 2 d, ← Int.mul_assoc]
  rw [e, ← h, e2]
  generalize q * d = z
  omega
theorem round_eq2 (q d left lo N pw t : Int) (h : (q * d + left) * 18446744073709551616 + lo = N * pw) : ((q * 2 + 1) * d + (left * 2 + t - d)) * 18446744073709551616 + (lo * 2 - t * 18446744073709551616) = N * (pw * 2) := by
  have e := round_eq q d left lo N pw t h
  have e3 : (q * 2 + 1) * d + (left * 2 + t - d) = q * 2 * d + (left * 2 + t) := by rw [Int.add_mul]; omega
  rw [e3]
  exact e

theorem div_end (q d left lo N : Int) (hd : 0 < d) (h0 : 0 ≤ left) (h1 : left < d) (hl0 : 0 ≤ lo) (hl1 : lo ≤ 18446744073709551615) (h : (q * d + left) * 18446744073709551616 + lo = N * 18446744073709551616) : q = N / d ∧ left = N % d := by
  have e : q * d + left = N := by omega
  have := (Int.ediv_emod_unique (a := N) (b := d) (r := left) (q := q) hd).2 ⟨by rw [Int.mul_comm]; omega, h0, h1⟩
  exact ⟨this.1.symm, this.2.symm⟩

theorem pw_succ (k : Nat) (pw : Int) (h : pw = 2 ^ k) : pw * 2 = 2 ^ (k + 1) := by rw [h, Int.pow_succ]
theorem pw_small (k : Nat) (pw : Int) (h : pw = 2 ^ k) (hk : k < 64) : pw ≤ 9223372036854775808 := by
  subst h
  have h1 : (2 : Nat) ^ k ≤ 2 ^ 63 := Nat.pow_le_pow_right (by omega) (by omega)
  have e : ((2 ^ k : Nat) : Int) = (2 : Int) ^ k := by simp
  rw [← e]
  omega

end Go.Proofs.Ytibphmddepfgjaa

/-
  The contracts of package span's together over this seat's translation, at plus and at minus. No condition but the bounds that each theorem states.
-/
namespace Go.Proofs.Ytibphmddepfgjaa
open Go.RowKit
attribute [local go_sem ↓] Go.wp_at_zero Go.wp_at_succ

/-- What together's frame holds: the two times in their boxes, the result's place empty. -/
def TogF (B : Nat) (an ad bn bd : Int) (w : World) : Prop :=
  w.cell? ⟨B, 0, none⟩ = some (.int .i64 an) ∧ w.cell? ⟨B, 1, none⟩ = some (.int .i64 ad) ∧ w.cell? ⟨B + 1, 0, none⟩ = some (.int .i64 bn) ∧ w.cell? ⟨B + 1, 1, none⟩ = some (.int .i64 bd) ∧
  w.cell? ⟨B + 1 + 1, 0, none⟩ = some (.int .i64 0) ∧ w.cell? ⟨B + 1 + 1, 1, none⟩ = some (.int .i64 0) ∧ w.frozen? ⟨B + 1 + 1, 0, none⟩ = false ∧ w.frozen? ⟨B + 1 + 1, 1, none⟩ = false
theorem TogF.keep {B : Nat} {an ad bn bd : Int} {w w' : World} (k : TogF B an ad bn bd w) (h : Below w.heap.size w w') : TogF B an ad bn bd w' := by
  obtain ⟨c0, c1, c2, c3, c4, c5, c6, c7⟩ := k
  exact ⟨keepc h c0, keepc h c1, keepc h c2, keepc h c3, keepc h c4, keepc h c5, keepf h c4 c6, keepf h c5 c7⟩
theorem TogF.drew {B : Nat} {an ad bn bd : Int} {w : World} (k : TogF B an ad bn bd w) : TogF B an ad bn bd w.drew := k

theorem realloc_cell {w : World} {o1 o2 : Obj} {p : Addr} {v : Value} (h : (w.alloc o1).cell? p = some v) (hp : p.block < w.heap.size) : (w.alloc o2).cell? p = some v := by
  rw [World.cell?_alloc_lt _ _ _ hp] at h
  rw [World.cell?_alloc_lt _ _ _ hp]
  exact h
/-- There is a block behind the third one from B on. -/
def Roomy (B : Nat) (w : World) : Prop := B + 1 + 1 < w.heap.size
theorem Roomy.keep {B : Nat} {w w' : World} (k : Roomy B w) (h : Below w.heap.size w w') : Roomy B w' := Nat.lt_of_lt_of_le k h.size
theorem Roomy.drewN {B : Nat} {w : World} (k : Roomy B w) (n : Nat) : Roomy B (w.drewN n) := k
theorem realloc_lt {w : World} {o1 : Obj} {B : Nat} (h : Roomy B (w.alloc o1)) : B < w.heap.size ∧ B + 1 < w.heap.size := by unfold Roomy at h; simp at h; omega
theorem realloc_size {w : World} {o1 o2 : Obj} {B : Nat} (h : Roomy B (w.alloc o1)) : Roomy B (w.alloc o2) := by unfold Roomy at *; simpa using h
theorem fresh2 {W w2 : World} {c0 c1 : Value} {t : TypeId} (hb : Below (W.alloc (.cells #[c0, c1] t)).heap.size (W.alloc (.cells #[c0, c1] t)) w2) :
    w2.cell? ⟨W.heap.size, 0, none⟩ = some c0 ∧ w2.cell? ⟨W.heap.size, 1, none⟩ = some c1 ∧ w2.frozen? ⟨W.heap.size, 0, none⟩ = false ∧ w2.frozen? ⟨W.heap.size, 1, none⟩ = false :=
  have a0 : (W.alloc (.cells #[c0, c1] t)).cell? ⟨W.heap.size, 0, none⟩ = some c0 := by go_simp
  have a1 : (W.alloc (.cells #[c0, c1] t)).cell? ⟨W.heap.size, 1, none⟩ = some c1 := by go_simp
  ⟨keepc hb a0, keepc hb a1, keepf hb a0 (by go_simp), keepf hb a1 (by go_simp)⟩
theorem fresh2d {W w2 : World} {c0 c1 : Value} {t : TypeId} (hb : Below (W.alloc (.cells #[c0, c1] t)).drew.heap.size (W.alloc (.cells #[c0, c1] t)).drew w2) :
    w2.cell? ⟨W.heap.size, 0, none⟩ = some c0 ∧ w2.cell? ⟨W.heap.size, 1, none⟩ = some c1 ∧ w2.frozen? ⟨W.heap.size, 0, none⟩ = false ∧ w2.frozen? ⟨W.heap.size, 1, none⟩ = false :=
  fresh2 (c0 := c0) (c1 := c1) (t := t) ⟨hb.os, hb.tape, hb.output, hb.size, hb.block⟩
theorem carry2 {w w' : World} {p q : Addr} {c0 c1 : Value} (k : w.cell? p = some c0 ∧ w.cell? q = some c1 ∧ w.frozen? p = false ∧ w.frozen? q = false) (hb : Below w.heap.size w w') :
    w'.cell? p = some c0 ∧ w'.cell? q = some c1 ∧ w'.frozen? p = false ∧ w'.frozen? q = false := ⟨keepc hb k.1, keepc hb k.2.1, keepf hb k.1 k.2.2.1, keepf hb k.2.1 k.2.2.2⟩
def Under (B n : Nat) : Prop := B + 1 < n
theorem under_of {B : Nat} {X w2 : World} {o : Obj} (_hb : Below (X.alloc o).heap.size (X.alloc o) w2) (k : Roomy B (X.alloc o)) : Under B X.heap.size := by unfold Roomy at k; unfold Under; simp at k; omega
theorem under_ofd {B : Nat} {X w2 : World} {o : Obj} (_hb : Below (X.alloc o).drew.heap.size (X.alloc o).drew w2) (k : Roomy B (X.alloc o).drew) : Under B X.heap.size := by unfold Roomy at k; unfold Under; simp at k; omega
theorem keepset {B c o : Nat} {X W : World} {a b v : Value} (k : Under B X.heap.size) (hc : c = B ∨ c = B + 1) (h : W.cell? ⟨c, o, none⟩ = some v) : ((W.setCell ⟨X.heap.size, 0, none⟩ a).setCell ⟨X.heap.size, 1, none⟩ b).cell? ⟨c, o, none⟩ = some v := by
  unfold Under at k
  rw [World.cell?_setCell_other _ _ _ _ (by intro e; injection e; omega), World.cell?_setCell_other _ _ _ _ (by intro e; injection e; omega)]
  exact h
theorem keepset_room {B : Nat} {W : World} {p q : Addr} {a b : Value} (k : Roomy B W) : Roomy B ((W.setCell p a).setCell q b) := by unfold Roomy at *; simpa [World.setCell] using k
def TogCut (w : World) (an ad bn bd hi lo : Int) (s : Value) (wx : World) : Prop :=
  ∃ g : Nat, s = .pointer (some ⟨g, 0, none⟩) ∧ wx.cell? ⟨g, 0, none⟩ = some (.int .u64 hi) ∧ wx.cell? ⟨g, 1, none⟩ = some (.int .u64 lo) ∧ TogF w.heap.size an ad bn bd wx ∧ Below w.heap.size w wx
theorem togcut_mk {w W wx : World} {an ad bn bd hi lo : Int} {g : Nat} (F : TogF w.heap.size an ad bn bd W) (hw : Below w.heap.size w W) (h0 : wx.cell? ⟨g, 0, none⟩ = some (.int .u64 hi)) (h1 : wx.cell? ⟨g, 1, none⟩ = some (.int .u64 lo)) (hx : Below W.heap.size W wx) :
    TogCut w an ad bn bd hi lo (.pointer (some ⟨g, 0, none⟩)) wx := ⟨g, rfl, h0, h1, F.keep hx, belowT hw hx⟩
theorem carry2d {w w' : World} {p q : Addr} {c0 c1 : Value} (k : w.cell? p = some c0 ∧ w.cell? q = some c1 ∧ w.frozen? p = false ∧ w.frozen? q = false) (hb : Below w.drew.heap.size w.drew w') :
    w'.cell? p = some c0 ∧ w'.cell? q = some c1 ∧ w'.frozen? p = false ∧ w'.frozen? q = false := carry2 k ⟨hb.os, hb.tape, hb.output, hb.size, hb.block⟩
theorem TogF.room {B : Nat} {an ad bn bd : Int} {w : World} (k : TogF B an ad bn bd w) : B + 1 + 1 < w.heap.size := World.block_lt_of_cell? w _ k.2.2.2.2.1
theorem keepset2 {R c o : Nat} {W : World} {a b v : Value} (hc : c < R ∨ R < c) (h : W.cell? ⟨c, o, none⟩ = some v) : ((W.setCell ⟨R, 0, none⟩ a).setCell ⟨R, 1, none⟩ b).cell? ⟨c, o, none⟩ = some v := by
  rw [World.cell?_setCell_other _ _ _ _ (by intro e; injection e; omega), World.cell?_setCell_other _ _ _ _ (by intro e; injection e; omega)]
  exact h
theorem wrap_in (x : Int) (h0 : 0 ≤ x) (h1 : x ≤ 9223372036854775807) : IntKind.u64.wrap x = x := by rw [IntKind.wrap_u64]; omega

end Go.Proofs.Ytibphmddepfgjaa

/-
  The contract of package span's together over this seat's translation, at minus. No condition but the bounds that the theorem states.
-/
namespace Go.Proofs.Ytibphmddepfgjaa
open Go.RowKit
attribute [local go_sem ↓] Go.wp_at_zero Go.wp_at_succ

end Go.Proofs.Ytibphmddepfgjaa
