/-
  The contracts of package span's together over this seat's translation, at plus and at minus. No condition but the bounds that each theorem states.
-/
import Derived.Test.YthdadpafankbfaaDoorSpanI
import Derived.Deep.DeepCutAuto
namespace Go.Proofs.YthdadpafankbfaaDoor
open Go.RowKit
attribute [local go_sem ↓] Go.wp_at_zero Go.wp_at_succ

/-- What together's frame holds: the two times in their boxes, the result's place empty. -/
def TogF (B : Nat) (an ad bn bd : Int) (w : World) : Prop :=
  w.cell? ⟨B, 0, none⟩ = some (.int .i64 an) ∧ w.cell? ⟨B, 1, none⟩ = some (.int .i64 ad) ∧ w.cell? ⟨B + 1, 0, none⟩ = some (.int .i64 bn) ∧ w.cell? ⟨B + 1, 1, none⟩ = some (.int .i64 bd) ∧
  w.cell? ⟨B + 1 + 1, 0, none⟩ = some (.int .i64 0) ∧ w.cell? ⟨B + 1 + 1, 1, none⟩ = some (.int .i64 0) ∧ w.frozen? ⟨B + 1 + 1, 0, none⟩ = false ∧ w.frozen? ⟨B + 1 + 1, 1, none⟩ = false
theorem TogF.keep {B : Nat} {an ad bn bd : Int} {w w' : World} (k : TogF B an ad bn bd w) (h : Below w.heap.size w w') : TogF B an ad bn bd w' := by
  obtain ⟨c0, c1, c2, c3, c4, c5, c6, c7⟩ := k
  exact ⟨keepc h c0, keepc h c1, keepc h c2, keepc h c3, keepc h c4, keepc h c5, keepf h c4 c6, keepf h c5 c7⟩
theorem TogF.drew {B : Nat} {an ad bn bd : Int} {w : World} (k : TogF B an ad bn bd w) : TogF B an ad bn bd w.drew := k

theorem realloc_cell {w : World} {o1 o2 : Obj} {p : Addr} {v : Value} (h : (w.alloc o1).cell? p = some v) (hp : p.block < w.heap.size) : (w.alloc o2).cell? p = some v := by
  rw [World.cell?_alloc_lt _ _ _ hp] at h
  rw [World.cell?_alloc_lt _ _ _ hp]
  exact h
/-- There is a block behind the third one from B on. -/
def Roomy (B : Nat) (w : World) : Prop := B + 1 + 1 < w.heap.size
theorem Roomy.keep {B : Nat} {w w' : World} (k : Roomy B w) (h : Below w.heap.size w w') : Roomy B w' := Nat.lt_of_lt_of_le k h.size
theorem Roomy.drewN {B : Nat} {w : World} (k : Roomy B w) (n : Nat) : Roomy B (w.drewN n) := k
theorem realloc_lt {w : World} {o1 : Obj} {B : Nat} (h : Roomy B (w.alloc o1)) : B < w.heap.size ∧ B + 1 < w.heap.size := by unfold Roomy at h; simp at h; omega
theorem realloc_size {w : World} {o1 o2 : Obj} {B : Nat} (h : Roomy B (w.alloc o1)) : Roomy B (w.alloc o2) := by unfold Roomy at *; simpa using h
theorem fresh2 {W w2 : World} {c0 c1 : Value} {t : TypeId} (hb : Below (W.alloc (.cells #[c0, c1] t)).heap.size (W.alloc (.cells #[c0, c1] t)) w2) :
    w2.cell? ⟨W.heap.size, 0, none⟩ = some c0 ∧ w2.cell? ⟨W.heap.size, 1, none⟩ = some c1 ∧ w2.frozen? ⟨W.heap.size, 0, none⟩ = false ∧ w2.frozen? ⟨W.heap.size, 1, none⟩ = false :=
  have a0 : (W.alloc (.cells #[c0, c1] t)).cell? ⟨W.heap.size, 0, none⟩ = some c0 := by go_simp
  have a1 : (W.alloc (.cells #[c0, c1] t)).cell? ⟨W.heap.size, 1, none⟩ = some c1 := by go_simp
  ⟨keepc hb a0, keepc hb a1, keepf hb a0 (by go_simp), keepf hb a1 (by go_simp)⟩
theorem fresh2d {W w2 : World} {c0 c1 : Value} {t : TypeId} (hb : Below (W.alloc (.cells #[c0, c1] t)).drew.heap.size (W.alloc (.cells #[c0, c1] t)).drew w2) :
    w2.cell? ⟨W.heap.size, 0, none⟩ = some c0 ∧ w2.cell? ⟨W.heap.size, 1, none⟩ = some c1 ∧ w2.frozen? ⟨W.heap.size, 0, none⟩ = false ∧ w2.frozen? ⟨W.heap.size, 1, none⟩ = false :=
  fresh2 (c0 := c0) (c1 := c1) (t := t) ⟨hb.os, hb.tape, hb.output, hb.size, hb.block⟩
theorem carry2 {w w' : World} {p q : Addr} {c0 c1 : Value} (k : w.cell? p = some c0 ∧ w.cell? q = some c1 ∧ w.frozen? p = false ∧ w.frozen? q = false) (hb : Below w.heap.size w w') :
    w'.cell? p = some c0 ∧ w'.cell? q = some c1 ∧ w'.frozen? p = false ∧ w'.frozen? q = false := ⟨keepc hb k.1, keepc hb k.2.1, keepf hb k.1 k.2.2.1, keepf hb k.2.1 k.2.2.2⟩
def Under (B n : Nat) : Prop := B + 1 < n
theorem under_of {B : Nat} {X w2 : World} {o : Obj} (_hb : Below (X.alloc o).heap.size (X.alloc o) w2) (k : Roomy B (X.alloc o)) : Under B X.heap.size := by unfold Roomy at k; unfold Under; simp at k; omega
theorem under_ofd {B : Nat} {X w2 : World} {o : Obj} (_hb : Below (X.alloc o).drew.heap.size (X.alloc o).drew w2) (k : Roomy B (X.alloc o).drew) : Under B X.heap.size := by unfold Roomy at k; unfold Under; simp at k; omega
theorem keepset {B c o : Nat} {X W : World} {a b v : Value} (k : Under B X.heap.size) (hc : c = B ∨ c = B + 1) (h : W.cell? ⟨c, o, none⟩ = some v) : ((W.setCell ⟨X.heap.size, 0, none⟩ a).setCell ⟨X.heap.size, 1, none⟩ b).cell? ⟨c, o, none⟩ = some v := by
  unfold Under at k
  rw [World.cell?_setCell_other _ _ _ _ (by intro e; injection e; omega), World.cell?_setCell_other _ _ _ _ (by intro e; injection e; omega)]
  exact h
theorem keepset_room {B : Nat} {W : World} {p q : Addr} {a b : Value} (k : Roomy B W) : Roomy B ((W.setCell p a).setCell q b) := by unfold Roomy at *; simpa [World.setCell] using k
def TogCut (w : World) (an ad bn bd hi lo : Int) (s : Value) (wx : World) : Prop :=
  ∃ g : Nat, s = .pointer (some ⟨g, 0, none⟩) ∧ wx.cell? ⟨g, 0, none⟩ = some (.int .u64 hi) ∧ wx.cell? ⟨g, 1, none⟩ = some (.int .u64 lo) ∧ TogF w.heap.size an ad bn bd wx ∧ Below w.heap.size w wx
theorem togcut_mk {w W wx : World} {an ad bn bd hi lo : Int} {g : Nat} (F : TogF w.heap.size an ad bn bd W) (hw : Below w.heap.size w W) (h0 : wx.cell? ⟨g, 0, none⟩ = some (.int .u64 hi)) (h1 : wx.cell? ⟨g, 1, none⟩ = some (.int .u64 lo)) (hx : Below W.heap.size W wx) :
    TogCut w an ad bn bd hi lo (.pointer (some ⟨g, 0, none⟩)) wx := ⟨g, rfl, h0, h1, F.keep hx, belowT hw hx⟩
theorem carry2d {w w' : World} {p q : Addr} {c0 c1 : Value} (k : w.cell? p = some c0 ∧ w.cell? q = some c1 ∧ w.frozen? p = false ∧ w.frozen? q = false) (hb : Below w.drew.heap.size w.drew w') :
    w'.cell? p = some c0 ∧ w'.cell? q = some c1 ∧ w'.frozen? p = false ∧ w'.frozen? q = false := carry2 k ⟨hb.os, hb.tape, hb.output, hb.size, hb.block⟩
theorem TogF.room {B : Nat} {an ad bn bd : Int} {w : World} (k : TogF B an ad bn bd w) : B + 1 + 1 < w.heap.size := World.block_lt_of_cell? w _ k.2.2.2.2.1
theorem keepset2 {R c o : Nat} {W : World} {a b v : Value} (hc : c < R ∨ R < c) (h : W.cell? ⟨c, o, none⟩ = some v) : ((W.setCell ⟨R, 0, none⟩ a).setCell ⟨R, 1, none⟩ b).cell? ⟨c, o, none⟩ = some v := by
  rw [World.cell?_setCell_other _ _ _ _ (by intro e; injection e; omega), World.cell?_setCell_other _ _ _ _ (by intro e; injection e; omega)]
  exact h
theorem wrap_in (x : Int) (h0 : 0 ≤ x) (h1 : x ≤ 9223372036854775807) : IntKind.u64.wrap x = x := by rw [IntKind.wrap_u64]; omega

set_option maxRecDepth 4000 in
set_option maxHeartbeats 4000000 in
theorem together_plus (an ad bn bd c l r x y T rest g n y2 : Int) (d1 : 1 ≤ ad) (d2 : ad ≤ 9223372036854775807) (e1 : 1 ≤ bd) (e2 : bd ≤ 9223372036854775807)
    (kc : ∀ w : World, Calls Tryd.prog 33 #[.int .u64 ad, .int .u64 bd] w fun e w' => e = .returned (.int .u64 c) ∧ Below w.heap.size w w') (c1 : 1 ≤ c)
    (hl : IntKind.u64.wrap (ad.tdiv c) = l) (hr : IntKind.u64.wrap (bd.tdiv c) = r)
    (kx : ∀ w : World, Calls Tryd.prog 32 #[.int .u64 (IntKind.u64.wrap an), .int .u64 r] w fun e w' => e = .returned (.agg #[.int .u64 (x / 18446744073709551616), .int .u64 (x % 18446744073709551616)]) ∧ Below w.heap.size w w')
    (ky : ∀ w : World, Calls Tryd.prog 32 #[.int .u64 (IntKind.u64.wrap bn), .int .u64 l] w fun e w' => e = .returned (.agg #[.int .u64 (y / 18446744073709551616), .int .u64 (y % 18446744073709551616)]) ∧ Below w.heap.size w w')
    (kT : ∀ w : World, Calls Tryd.prog 35 #[.agg #[.int .u64 (x / 18446744073709551616), .int .u64 (x % 18446744073709551616)], .agg #[.int .u64 (y / 18446744073709551616), .int .u64 (y % 18446744073709551616)]] w fun e w' => e = .returned (.agg #[.int .u64 (T / 18446744073709551616), .int .u64 (T % 18446744073709551616)]) ∧ Below w.heap.size w w')
    (kr : ∀ w : World, Calls Tryd.prog 54 #[.agg #[.int .u64 (T / 18446744073709551616), .int .u64 (T % 18446744073709551616)], .int .u64 c] w fun e w' => e = .returned (.tuple #[.agg #[.int .u64 (T / c / 18446744073709551616), .int .u64 (T / c % 18446744073709551616)], .int .u64 rest]) ∧ Below w.heap.size w w')
    (kg : ∀ w : World, Calls Tryd.prog 33 #[.int .u64 c, .int .u64 rest] w fun e w' => e = .returned (.int .u64 g) ∧ Below w.heap.size w w') (g1 : 1 ≤ g)
    (kn : ∀ w : World, Calls Tryd.prog 54 #[.agg #[.int .u64 (T / 18446744073709551616), .int .u64 (T % 18446744073709551616)], .int .u64 g] w fun e w' => e = .returned (.tuple #[.agg #[.int .u64 (n / 18446744073709551616), .int .u64 (n % 18446744073709551616)], .int .u64 (T % g)]) ∧ Below w.heap.size w w')
    (hy2 : IntKind.u64.wrap (bd.tdiv g) = y2) (z : Int)
    (kz : ∀ w : World, Calls Tryd.prog 32 #[.int .u64 l, .int .u64 y2] w fun e w' => e = .returned (.agg #[.int .u64 (z / 18446744073709551616), .int .u64 (z % 18446744073709551616)]) ∧ Below w.heap.size w w')
    (tn td te : Int)
    (kf : ∀ w : World, Calls Tryd.prog 38 #[.agg #[.int .u64 (n / 18446744073709551616), .int .u64 (n % 18446744073709551616)], .agg #[.int .u64 (z / 18446744073709551616), .int .u64 (z % 18446744073709551616)]] w fun e w' => e = .returned (.tuple #[.agg #[.int .i64 tn, .int .i64 td], .int .i64 te]) ∧ Below w.heap.size w w') (w : World) :
    Calls Tryd.prog 34 #[.agg #[.int .i64 an, .int .i64 ad], .agg #[.int .i64 bn, .int .i64 bd], .func (.func 35) #[] #[]] w fun e w' => e = .returned (.tuple #[.agg #[.int .i64 tn, .int .i64 td], .int .i64 te]) ∧ Below w.heap.size w w' := by
  have hc0 : ¬ c = 0 := by omega
  have hg0 : ¬ g = 0 := by omega
  have ead := wrap_in ad (by omega) d2
  have ebd := wrap_in bd (by omega) e2
  have KC := Lib.hid kc
  have KX := Lib.hid kx
  have KY := Lib.hid ky
  have KT := Lib.hid kT
  have KR := Lib.hid kr
  have KG := Lib.hid kg
  have KN := Lib.hid kn
  have KZ := Lib.hid kz
  have KF := Lib.hid kf
  clear kc kx ky kT kr kg kn kz kf
  go_enter Tryd.func34, Tryd.ntmps34
  go_wp2_with fail
  refine (KC.out _).mono ?_
  rintro e w1 ⟨rfl, hb1⟩
  have F0 : TogF w.heap.size an ad bn bd _ := TogF.keep ⟨by go_simp, by go_simp, by go_simp, by go_simp, by go_simp, by go_simp, by go_simp, by go_simp⟩ hb1
  have hw := belowT (belowA (belowA (belowA (Below.refl _ w) _) _) _) hb1
  clear hb1
  have F1 := F0
  obtain ⟨f0, f1, f2, f3, f4, f5, f6, f7⟩ := F1
  have fs : Roomy w.heap.size w1 := World.block_lt_of_cell? w1 _ f4
  go_wp2_with fail
  go_quiet (fail)
  have F2 : TogF w.heap.size an ad bn bd (w1.drewN nq) := F0
  have hw2 := belowN hw nq
  have fs2 := fs.drewN nq
  clear f0 f1 f2 f3 f4 f5 f6 f7 F0 hw fs
  generalize w1.drewN nq = W at *
  have F1 := F2
  obtain ⟨f0, f1, f2, f3, f4, f5, f6, f7⟩ := F1
  go_upto_region 3 with fail
  go_cut [11] (fun s wx => TogCut w an ad bn bd (T / 18446744073709551616) (T % 18446744073709551616) s wx)
  case first =>
    go_region_held3 (fun w' => w'.cell? ⟨w.heap.size, 0, none⟩ = some (.int .i64 an) ∧ w'.cell? ⟨w.heap.size + 1, 0, none⟩ = some (.int .i64 bn) ∧ Roomy w.heap.size w')
      (first
        | exact ⟨f0, f2, fs2⟩
        | (go_split_ands; exact ⟨keepc hb (by assumption), keepc hb (by assumption), Roomy.keep (by assumption) hb⟩)
        | (go_split_ands; exact ⟨keepc (belowA (Below.refl _ _) _) (by assumption), keepc (belowA (Below.refl _ _) _) (by assumption), Roomy.keep (by assumption) (belowA (Below.refl _ _) _)⟩)
        | (go_split_ands; exact ⟨realloc_cell (by assumption) (realloc_lt (by assumption)).1, realloc_cell (by assumption) (realloc_lt (by assumption)).2, realloc_size (by assumption)⟩)
        | (go_split_ands; exact ⟨keepset U (.inl rfl) (by assumption), keepset U (.inr rfl) (by assumption), keepset_room (by assumption)⟩)
        | go_keep)
      (first
        | (go_at_call_of 32 (Value.int .u64 r); refine (KX.out _).mono ?_; rintro e w2 ⟨rfl, hb⟩; first | (have Q := fresh2 hb; have U := under_of (B := w.heap.size) hb (by go_split_ands; assumption)) | (have Q := fresh2d hb; have U := under_ofd (B := w.heap.size) hb (by go_split_ands; assumption)) | (have Q := carry2 Q hb) | skip)
        | (go_at_call_of 32 (Value.int .u64 l); refine (KY.out _).mono ?_; rintro e w2 ⟨rfl, hb⟩; first | (have Q := fresh2 hb; have U := under_of (B := w.heap.size) hb (by go_split_ands; assumption)) | (have Q := fresh2d hb; have U := under_ofd (B := w.heap.size) hb (by go_split_ands; assumption)) | (have Q := carry2 Q hb) | skip)
        | (go_at_call 35; refine (KT.out _).mono ?_; rintro e w2 ⟨rfl, hb⟩; first | (have Q := fresh2 hb; have U := under_of (B := w.heap.size) hb (by go_split_ands; assumption)) | (have Q := fresh2d hb; have U := under_ofd (B := w.heap.size) hb (by go_split_ands; assumption)) | (have Q := carry2 Q hb) | skip))
    all_goals (go_wp2_with fail; go_meet)
    all_goals exact togcut_mk F2 hw2 (by go_simp) (by go_simp) (by repeat (first | exact Below.refl _ _ | refine Below.drew ?_ | refine belowA ?_ _ | refine belowS ?_ (Below.size (B := W.heap.size) (w := W) (by repeat (first | exact Below.refl _ _ | refine Below.drew ?_ | refine belowA ?_ _ | refine belowT ?_ (by assumption)))) _ | refine belowT ?_ (by assumption)))
  case rest =>
    obtain ⟨p, rfl, h0, h1, F3, hw3⟩ := hcut
    have F1 := F3
    obtain ⟨f0, f1, f2, f3, f4, f5, f6, f7⟩ := F1
    go_wp2_with fail
    refine (KR.out _).mono ?_
    rintro e w3 ⟨rfl, hb3⟩
    replace F3 := F3.keep hb3
    replace h0 := keepc hb3 h0
    replace h1 := keepc hb3 h1
    replace hw3 := belowT hw3 hb3
    clear f0 f1 f2 f3 f4 f5 f6 f7 hb3
    go_wp2_with fail
    refine (KG.out _).mono ?_
    rintro e w4 ⟨rfl, hb4⟩
    have hx := belowT (belowA (Below.refl _ w3) _) hb4
    replace F3 := F3.keep hx
    replace h0 := keepc hx h0
    replace h1 := keepc hx h1
    replace hw3 := belowT hw3 hx
    clear hb4 hx
    go_wp2_with fail
    refine (KN.out _).mono ?_
    rintro e w5 ⟨rfl, hb5⟩
    replace F3 := F3.keep hb5
    replace hw3 := belowT hw3 hb5
    have U := F3.room
    clear hb5 h0 h1
    go_wp2_with fail
    have F1 := F3.keep (belowA (Below.refl _ w5) (.cells #[.int .u64 (n / 18446744073709551616), .int .u64 (n % 18446744073709551616)] 49))
    obtain ⟨f0, f1, f2, f3, f4, f5, f6, f7⟩ := F1
    have Q := And.intro f4 (And.intro f5 (And.intro f6 f7))
    clear f0 f1 f2 f4 f5 f6 f7
    go_region_held3 (fun w' => w'.cell? ⟨w5.heap.size, 0, none⟩ = some (.int .u64 (n / 18446744073709551616)) ∧ w'.cell? ⟨w5.heap.size, 1, none⟩ = some (.int .u64 (n % 18446744073709551616)) ∧ w'.cell? ⟨w.heap.size + 1, 1, none⟩ = some (.int .i64 bd))
      (first | (go_split_ands; exact ⟨keepc hb (by assumption), keepc hb (by assumption), keepc hb (by assumption)⟩) | (go_split_ands; exact ⟨keepset2 (.inr U) (by assumption), keepset2 (.inr U) (by assumption), keepset2 (.inl (Nat.lt_succ_self _)) (by assumption)⟩) | go_keep)
      (first
        | (go_at_call 32; refine (KZ.out _).mono ?_; rintro e w2 ⟨rfl, hb⟩; first | (have Q := carry2 Q hb) | (have Q := carry2d Q hb))
        | (go_at_call 38; refine (KF.out _).mono ?_; rintro e w2 ⟨rfl, hb⟩; first | (have Q := carry2 Q hb) | (have Q := carry2d Q hb)))
    all_goals go_wp2
    all_goals exact bodyPost_ret (v := .tuple #[.agg #[.int .i64 tn, .int .i64 td], .int .i64 te]) (by simp [results, Tryd.results34, go_sem, Q]) rfl ⟨rfl, by (repeat (first | exact Below.refl _ _ | refine belowN ?_ _ | refine Below.drew ?_ | refine belowA ?_ _ | refine belowS ?_ (by omega) _ | assumption | refine belowT ?_ (by assumption)))⟩
end Go.Proofs.YthdadpafankbfaaDoor
