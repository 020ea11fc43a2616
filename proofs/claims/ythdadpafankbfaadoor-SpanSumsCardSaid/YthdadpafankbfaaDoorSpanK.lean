/-
  The contract of package span's together over this seat's translation, at minus. No condition but the bounds that the theorem states.
-/
import Derived.Test.YthdadpafankbfaaDoorSpanJ
namespace Go.Proofs.YthdadpafankbfaaDoor
open Go.RowKit
attribute [local go_sem ↓] Go.wp_at_zero Go.wp_at_succ

set_option maxRecDepth 4000 in
set_option maxHeartbeats 4000000 in
theorem together_minus (an ad bn bd c l r x y T rest g n y2 : Int) (d1 : 1 ≤ ad) (d2 : ad ≤ 9223372036854775807) (e1 : 1 ≤ bd) (e2 : bd ≤ 9223372036854775807)
    (kc : ∀ w : World, Calls Tryd.prog 33 #[.int .u64 ad, .int .u64 bd] w fun e w' => e = .returned (.int .u64 c) ∧ Below w.heap.size w w') (c1 : 1 ≤ c)
    (hl : IntKind.u64.wrap (ad.tdiv c) = l) (hr : IntKind.u64.wrap (bd.tdiv c) = r)
    (kx : ∀ w : World, Calls Tryd.prog 32 #[.int .u64 (IntKind.u64.wrap an), .int .u64 r] w fun e w' => e = .returned (.agg #[.int .u64 (x / 18446744073709551616), .int .u64 (x % 18446744073709551616)]) ∧ Below w.heap.size w w')
    (ky : ∀ w : World, Calls Tryd.prog 32 #[.int .u64 (IntKind.u64.wrap bn), .int .u64 l] w fun e w' => e = .returned (.agg #[.int .u64 (y / 18446744073709551616), .int .u64 (y % 18446744073709551616)]) ∧ Below w.heap.size w w')
    (kT : ∀ w : World, Calls Tryd.prog 36 #[.agg #[.int .u64 (x / 18446744073709551616), .int .u64 (x % 18446744073709551616)], .agg #[.int .u64 (y / 18446744073709551616), .int .u64 (y % 18446744073709551616)]] w fun e w' => e = .returned (.agg #[.int .u64 (T / 18446744073709551616), .int .u64 (T % 18446744073709551616)]) ∧ Below w.heap.size w w')
    (kr : ∀ w : World, Calls Tryd.prog 54 #[.agg #[.int .u64 (T / 18446744073709551616), .int .u64 (T % 18446744073709551616)], .int .u64 c] w fun e w' => e = .returned (.tuple #[.agg #[.int .u64 (T / c / 18446744073709551616), .int .u64 (T / c % 18446744073709551616)], .int .u64 rest]) ∧ Below w.heap.size w w')
    (kg : ∀ w : World, Calls Tryd.prog 33 #[.int .u64 c, .int .u64 rest] w fun e w' => e = .returned (.int .u64 g) ∧ Below w.heap.size w w') (g1 : 1 ≤ g)
    (kn : ∀ w : World, Calls Tryd.prog 54 #[.agg #[.int .u64 (T / 18446744073709551616), .int .u64 (T % 18446744073709551616)], .int .u64 g] w fun e w' => e = .returned (.tuple #[.agg #[.int .u64 (n / 18446744073709551616), .int .u64 (n % 18446744073709551616)], .int .u64 (T % g)]) ∧ Below w.heap.size w w')
    (hy2 : IntKind.u64.wrap (bd.tdiv g) = y2) (z : Int)
    (kz : ∀ w : World, Calls Tryd.prog 32 #[.int .u64 l, .int .u64 y2] w fun e w' => e = .returned (.agg #[.int .u64 (z / 18446744073709551616), .int .u64 (z % 18446744073709551616)]) ∧ Below w.heap.size w w')
    (tn td te : Int)
    (kf : ∀ w : World, Calls Tryd.prog 38 #[.agg #[.int .u64 (n / 18446744073709551616), .int .u64 (n % 18446744073709551616)], .agg #[.int .u64 (z / 18446744073709551616), .int .u64 (z % 18446744073709551616)]] w fun e w' => e = .returned (.tuple #[.agg #[.int .i64 tn, .int .i64 td], .int .i64 te]) ∧ Below w.heap.size w w') (w : World) :
    Calls Tryd.prog 34 #[.agg #[.int .i64 an, .int .i64 ad], .agg #[.int .i64 bn, .int .i64 bd], .func (.func 36) #[] #[]] w fun e w' => e = .returned (.tuple #[.agg #[.int .i64 tn, .int .i64 td], .int .i64 te]) ∧ Below w.heap.size w w' := by
  have hc0 : ¬ c = 0 := by omega
  have hg0 : ¬ g = 0 := by omega
  have ead := wrap_in ad (by omega) d2
  have ebd := wrap_in bd (by omega) e2
  have KC := Lib.hid kc
  have KX := Lib.hid kx
  have KY := Lib.hid ky
  have KT := Lib.hid kT
  have KR := Lib.hid kr
  have KG := Lib.hid kg
  have KN := Lib.hid kn
  have KZ := Lib.hid kz
  have KF := Lib.hid kf
  clear kc kx ky kT kr kg kn kz kf
  go_enter Tryd.func34, Tryd.ntmps34
  go_wp2_with fail
  refine (KC.out _).mono ?_
  rintro e w1 ⟨rfl, hb1⟩
  have F0 : TogF w.heap.size an ad bn bd _ := TogF.keep ⟨by go_simp, by go_simp, by go_simp, by go_simp, by go_simp, by go_simp, by go_simp, by go_simp⟩ hb1
  have hw := belowT (belowA (belowA (belowA (Below.refl _ w) _) _) _) hb1
  clear hb1
  have F1 := F0
  obtain ⟨f0, f1, f2, f3, f4, f5, f6, f7⟩ := F1
  have fs : Roomy w.heap.size w1 := World.block_lt_of_cell? w1 _ f4
  go_wp2_with fail
  go_quiet (fail)
  have F2 : TogF w.heap.size an ad bn bd (w1.drewN nq) := F0
  have hw2 := belowN hw nq
  have fs2 := fs.drewN nq
  clear f0 f1 f2 f3 f4 f5 f6 f7 F0 hw fs
  generalize w1.drewN nq = W at *
  have F1 := F2
  obtain ⟨f0, f1, f2, f3, f4, f5, f6, f7⟩ := F1
  go_upto_region 3 with fail
  go_cut [11] (fun s wx => TogCut w an ad bn bd (T / 18446744073709551616) (T % 18446744073709551616) s wx)
  case first =>
    go_region_held3 (fun w' => w'.cell? ⟨w.heap.size, 0, none⟩ = some (.int .i64 an) ∧ w'.cell? ⟨w.heap.size + 1, 0, none⟩ = some (.int .i64 bn) ∧ Roomy w.heap.size w')
      (first
        | exact ⟨f0, f2, fs2⟩
        | (go_split_ands; exact ⟨keepc hb (by assumption), keepc hb (by assumption), Roomy.keep (by assumption) hb⟩)
        | (go_split_ands; exact ⟨keepc (belowA (Below.refl _ _) _) (by assumption), keepc (belowA (Below.refl _ _) _) (by assumption), Roomy.keep (by assumption) (belowA (Below.refl _ _) _)⟩)
        | (go_split_ands; exact ⟨realloc_cell (by assumption) (realloc_lt (by assumption)).1, realloc_cell (by assumption) (realloc_lt (by assumption)).2, realloc_size (by assumption)⟩)
        | (go_split_ands; exact ⟨keepset U (.inl rfl) (by assumption), keepset U (.inr rfl) (by assumption), keepset_room (by assumption)⟩)
        | go_keep)
      (first
        | (go_at_call_of 32 (Value.int .u64 r); refine (KX.out _).mono ?_; rintro e w2 ⟨rfl, hb⟩; first | (have Q := fresh2 hb; have U := under_of (B := w.heap.size) hb (by go_split_ands; assumption)) | (have Q := fresh2d hb; have U := under_ofd (B := w.heap.size) hb (by go_split_ands; assumption)) | (have Q := carry2 Q hb) | skip)
        | (go_at_call_of 32 (Value.int .u64 l); refine (KY.out _).mono ?_; rintro e w2 ⟨rfl, hb⟩; first | (have Q := fresh2 hb; have U := under_of (B := w.heap.size) hb (by go_split_ands; assumption)) | (have Q := fresh2d hb; have U := under_ofd (B := w.heap.size) hb (by go_split_ands; assumption)) | (have Q := carry2 Q hb) | skip)
        | (go_at_call 36; refine (KT.out _).mono ?_; rintro e w2 ⟨rfl, hb⟩; first | (have Q := fresh2 hb; have U := under_of (B := w.heap.size) hb (by go_split_ands; assumption)) | (have Q := fresh2d hb; have U := under_ofd (B := w.heap.size) hb (by go_split_ands; assumption)) | (have Q := carry2 Q hb) | skip))
    all_goals (go_wp2_with fail; go_meet)
    all_goals exact togcut_mk F2 hw2 (by go_simp) (by go_simp) (by repeat (first | exact Below.refl _ _ | refine Below.drew ?_ | refine belowA ?_ _ | refine belowS ?_ (Below.size (B := W.heap.size) (w := W) (by repeat (first | exact Below.refl _ _ | refine Below.drew ?_ | refine belowA ?_ _ | refine belowT ?_ (by assumption)))) _ | refine belowT ?_ (by assumption)))
  case rest =>
    obtain ⟨p, rfl, h0, h1, F3, hw3⟩ := hcut
    have F1 := F3
    obtain ⟨f0, f1, f2, f3, f4, f5, f6, f7⟩ := F1
    go_wp2_with fail
    refine (KR.out _).mono ?_
    rintro e w3 ⟨rfl, hb3⟩
    replace F3 := F3.keep hb3
    replace h0 := keepc hb3 h0
    replace h1 := keepc hb3 h1
    replace hw3 := belowT hw3 hb3
    clear f0 f1 f2 f3 f4 f5 f6 f7 hb3
    go_wp2_with fail
    refine (KG.out _).mono ?_
    rintro e w4 ⟨rfl, hb4⟩
    have hx := belowT (belowA (Below.refl _ w3) _) hb4
    replace F3 := F3.keep hx
    replace h0 := keepc hx h0
    replace h1 := keepc hx h1
    replace hw3 := belowT hw3 hx
    clear hb4 hx
    go_wp2_with fail
    refine (KN.out _).mono ?_
    rintro e w5 ⟨rfl, hb5⟩
    replace F3 := F3.keep hb5
    replace hw3 := belowT hw3 hb5
    have U := F3.room
    clear hb5 h0 h1
    go_wp2_with fail
    have F1 := F3.keep (belowA (Below.refl _ w5) (.cells #[.int .u64 (n / 18446744073709551616), .int .u64 (n % 18446744073709551616)] 49))
    obtain ⟨f0, f1, f2, f3, f4, f5, f6, f7⟩ := F1
    have Q := And.intro f4 (And.intro f5 (And.intro f6 f7))
    clear f0 f1 f2 f4 f5 f6 f7
    go_region_held3 (fun w' => w'.cell? ⟨w5.heap.size, 0, none⟩ = some (.int .u64 (n / 18446744073709551616)) ∧ w'.cell? ⟨w5.heap.size, 1, none⟩ = some (.int .u64 (n % 18446744073709551616)) ∧ w'.cell? ⟨w.heap.size + 1, 1, none⟩ = some (.int .i64 bd))
      (first | (go_split_ands; exact ⟨keepc hb (by assumption), keepc hb (by assumption), keepc hb (by assumption)⟩) | (go_split_ands; exact ⟨keepset2 (.inr U) (by assumption), keepset2 (.inr U) (by assumption), keepset2 (.inl (Nat.lt_succ_self _)) (by assumption)⟩) | go_keep)
      (first
        | (go_at_call 32; refine (KZ.out _).mono ?_; rintro e w2 ⟨rfl, hb⟩; first | (have Q := carry2 Q hb) | (have Q := carry2d Q hb))
        | (go_at_call 38; refine (KF.out _).mono ?_; rintro e w2 ⟨rfl, hb⟩; first | (have Q := carry2 Q hb) | (have Q := carry2d Q hb)))
    all_goals go_wp2
    all_goals exact bodyPost_ret (v := .tuple #[.agg #[.int .i64 tn, .int .i64 td], .int .i64 te]) (by simp [results, Tryd.results34, go_sem, Q]) rfl ⟨rfl, by (repeat (first | exact Below.refl _ _ | refine belowN ?_ _ | refine Below.drew ?_ | refine belowA ?_ _ | refine belowS ?_ (by omega) _ | assumption | refine belowT ?_ (by assumption)))⟩
end Go.Proofs.YthdadpafankbfaaDoor
