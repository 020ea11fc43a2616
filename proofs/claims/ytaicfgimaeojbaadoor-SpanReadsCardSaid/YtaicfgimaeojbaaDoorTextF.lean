/-
  The contracts of span.parse and span.Read over this seat's translation. Conditions: the text is not too long; the world bears what the library's functions on texts read.
-/
import Derived.Test.YtaicfgimaeojbaaDoorTextE
import Derived.Test.YtaicfgimaeojbaaDoorShelfB
namespace Go.Proofs.YtaicfgimaeojbaaDoor
open Go.RowKit
attribute [local go_sem ↓] Go.wp_at_zero Go.wp_at_succ

theorem atoi_yes (s : ByteArray) (hs : s.size ≤ 10000) (v : Int) (h : Lib.atoiAll s.data.toList = .ok v) (w : World) :
    Calls Tryd.prog 26 #[.string s] w fun e w' => e = .returned (.tuple #[.int .i64 v, .nilIface]) ∧ Below w.heap.size w w' := by
  refine (Tryd.strconv_Atoi_ok s (by omega) v h w).mono ?_
  rintro e w' ⟨rfl, rfl | ⟨t, rfl⟩⟩
  · exact ⟨rfl, Below.refl _ _⟩
  · exact ⟨rfl, Lib.bytesWorld_below _ _ _⟩
def AtoiNo (w : World) (e : Ending) (w' : World) : Prop := ∃ (x : Int) (N : Nat), e = .returned (.tuple #[.int .i64 x, .iface 78 (.pointer (some ⟨N, 0, none⟩))]) ∧ In64 x ∧ Below w.heap.size w w'
theorem atoi_no (s : ByteArray) (hs : s.size ≤ 10000) (h : ∀ v, Lib.atoiAll s.data.toList ≠ .ok v) (w : World) (he : Env w) :
    Calls Tryd.prog 26 #[.string s] w (AtoiNo w) := by
  obtain ⟨_, _, ⟨e2, h2, k2⟩, ⟨e3, h3, k3⟩⟩ := he
  by_cases hr : Lib.atoiAll s.data.toList = .range
  · refine (Tryd.strconv_Atoi_range s (by omega) hr e3 w h3 k3).mono ?_
    rintro e w' ⟨N, rfl, _, _, hb⟩
    exact ⟨_, N, rfl, Lib.atoiSat_bounds _, hb⟩
  · have hs : Lib.atoiAll s.data.toList = Lib.atoiAll [] := by
      generalize Lib.atoiAll s.data.toList = e at h hr
      cases e
      all_goals first
        | rfl
        | exact absurd rfl (h _)
        | exact absurd rfl hr
    refine (Tryd.strconv_Atoi_syntax s (by omega) hs e2 w h2 k2).mono ?_
    rintro e w' ⟨N, rfl, _, _, hb⟩
    exact ⟨0, N, rfl, ⟨by omega, by omega⟩, hb⟩
theorem cut_c (s : ByteArray) (hs : s.size ≤ 10000) (w : World) (he : Env w) :
    Calls Tryd.prog 25 #[.string s, .string ⟨#[47]⟩] w fun e w' => e = .returned (.tuple #[.string ⟨(Lib.cut s.data.toList [47]).1.toArray⟩, .string ⟨(Lib.cut s.data.toList [47]).2.1.toArray⟩, .bool (Lib.cut s.data.toList [47]).2.2]) ∧ Below w.heap.size w w' := by
  obtain ⟨m, h1⟩ := he.len
  refine (Tryd.strings_Cut s ⟨#[47]⟩ m w (by omega) h1).mono ?_
  rintro e w' ⟨rfl, n, rfl⟩
  exact ⟨rfl, belowN (Below.refl _ _) _⟩
theorem text_nv (w : World) (he : Env w) :
    Calls Tryd.prog 5 #[.agg #[.int .i64 1, .int .i64 0]] w fun e w' => e = .returned (.string ⟨#[110, 101, 118, 101, 114]⟩) ∧ Below w.heap.size w w' := by
  have h := text_c 1 0 ⟨by omega, by omega⟩ ⟨by omega, by omega⟩ w he
  rwa [textS_never] at h
abbrev nvL : List UInt8 := [110, 101, 118, 101, 114]
abbrev CutK (s top bot : ByteArray) (b : Bool) : Prop := ∀ w : World, Env w → Calls Tryd.prog 25 #[.string s, .string ⟨#[47]⟩] w fun e w' => e = .returned (.tuple #[.string top, .string bot, .bool b]) ∧ Below w.heap.size w w'
abbrev YesK (s : ByteArray) (v : Int) : Prop := ∀ w : World, Env w → Calls Tryd.prog 26 #[.string s] w fun e w' => e = .returned (.tuple #[.int .i64 v, .nilIface]) ∧ Below w.heap.size w w'
abbrev NoK (s : ByteArray) : Prop := ∀ w : World, Env w → Calls Tryd.prog 26 #[.string s] w (AtoiNo w)

set_option maxHeartbeats 1000000 in
set_option maxRecDepth 100000 in
theorem parse_never (w : World) (he : Env w) :
    Calls Tryd.prog 14 #[.string ⟨#[110, 101, 118, 101, 114]⟩] w fun e w' => e = .returned (.tuple #[.agg #[.int .i64 1, .int .i64 0], .bool true]) ∧ Below w.heap.size w w' := by
  go_enter Tryd.func14, Tryd.ntmps14
  go_wp2_with fail
  refine (never_c _).mono ?_
  rintro e w1 ⟨rfl, hb⟩
  have WB := belowT (belowA (Below.refl _ w) _) hb
  have HE := he.keep WB
  have Z : ZT w.heap.size w1 := ZT.keep ⟨by go_simp, by go_simp, by go_simp, by go_simp⟩ hb
  clear hb
  go_wp2_with fail
  refine (text_nv _ HE).mono ?_
  rintro e w2 ⟨rfl, hb⟩
  replace WB := belowT WB hb
  replace HE := HE.keep hb
  replace Z := Z.keep hb
  clear hb
  go_wp2_with fail
  refine (never_c _).mono ?_
  rintro e w3 ⟨rfl, hb⟩
  replace WB := belowT WB hb
  replace HE := HE.keep hb
  replace Z := Z.keep hb
  clear hb
  obtain ⟨z0, z1, z2, z3⟩ := Z
  all_goals go_wp2
  all_goals exact bodyPost_ret (v := .tuple #[.agg #[.int .i64 1, .int .i64 0], .bool true]) (by simp [results, Tryd.results14, go_sem, z0, z1]) rfl ⟨rfl, (by repeat (first | with_reducible assumption | with_reducible exact Below.refl _ _ | with_reducible refine belowS ?_ (Nat.le_refl _) _ | with_reducible refine belowS ?_ (by omega) _ | with_reducible refine belowN ?_ _ | with_reducible refine Below.drew ?_ | with_reducible refine belowA ?_ _ | with_reducible refine belowT ?_ (by assumption)))⟩

set_option maxHeartbeats 1000000 in
set_option maxRecDepth 100000 in
theorem parse_topno_true (s : ByteArray) (hn : (s.toList == nvL) = false) (top bot : ByteArray) (k0 : CutK s top bot true) (k1 : NoK top) (w : World) (he : Env w) :
    Calls Tryd.prog 14 #[.string s] w fun e w' => e = .returned (.tuple #[.agg #[.int .i64 0, .int .i64 0], .bool false]) ∧ Below w.heap.size w w' := by
  go_enter Tryd.func14, Tryd.ntmps14
  go_wp2_with fail
  refine (never_c _).mono ?_
  rintro e w1 ⟨rfl, hb⟩
  have WB := belowT (belowA (Below.refl _ w) _) hb
  have HE := he.keep WB
  have Z : ZT w.heap.size w1 := ZT.keep ⟨by go_simp, by go_simp, by go_simp, by go_simp⟩ hb
  clear hb
  go_wp2_with fail
  refine (text_nv _ HE).mono ?_
  rintro e w2 ⟨rfl, hb⟩
  replace WB := belowT WB hb
  replace HE := HE.keep hb
  replace Z := Z.keep hb
  clear hb
  go_wp2_with fail
  refine (k0 _ HE).mono ?_
  rintro e w3 ⟨rfl, hb⟩
  replace WB := belowT WB hb
  replace HE := HE.keep hb
  replace Z := Z.keep hb
  clear hb
  go_wp2_with fail
  refine (k1 _ HE).mono ?_
  rintro e w4 ⟨x, N, rfl, hx, hb⟩
  replace WB := belowT WB hb
  replace HE := HE.keep hb
  replace Z := Z.keep hb
  clear hb
  obtain ⟨z0, z1, z2, z3⟩ := Z
  all_goals go_wp2
  all_goals exact bodyPost_ret (v := .tuple #[.agg #[.int .i64 0, .int .i64 0], .bool false]) (by simp [results, Tryd.results14, go_sem, z0, z1]) rfl ⟨rfl, (by repeat (first | with_reducible assumption | with_reducible exact Below.refl _ _ | with_reducible refine belowS ?_ (Nat.le_refl _) _ | with_reducible refine belowS ?_ (by omega) _ | with_reducible refine belowN ?_ _ | with_reducible refine Below.drew ?_ | with_reducible refine belowA ?_ _ | with_reducible refine belowT ?_ (by assumption)))⟩

set_option maxHeartbeats 1000000 in
set_option maxRecDepth 100000 in
theorem parse_topno_false (s : ByteArray) (hn : (s.toList == nvL) = false) (top bot : ByteArray) (k0 : CutK s top bot false) (k1 : NoK top) (w : World) (he : Env w) :
    Calls Tryd.prog 14 #[.string s] w fun e w' => e = .returned (.tuple #[.agg #[.int .i64 0, .int .i64 0], .bool false]) ∧ Below w.heap.size w w' := by
  go_enter Tryd.func14, Tryd.ntmps14
  go_wp2_with fail
  refine (never_c _).mono ?_
  rintro e w1 ⟨rfl, hb⟩
  have WB := belowT (belowA (Below.refl _ w) _) hb
  have HE := he.keep WB
  have Z : ZT w.heap.size w1 := ZT.keep ⟨by go_simp, by go_simp, by go_simp, by go_simp⟩ hb
  clear hb
  go_wp2_with fail
  refine (text_nv _ HE).mono ?_
  rintro e w2 ⟨rfl, hb⟩
  replace WB := belowT WB hb
  replace HE := HE.keep hb
  replace Z := Z.keep hb
  clear hb
  go_wp2_with fail
  refine (k0 _ HE).mono ?_
  rintro e w3 ⟨rfl, hb⟩
  replace WB := belowT WB hb
  replace HE := HE.keep hb
  replace Z := Z.keep hb
  clear hb
  go_wp2_with fail
  refine (k1 _ HE).mono ?_
  rintro e w4 ⟨x, N, rfl, hx, hb⟩
  replace WB := belowT WB hb
  replace HE := HE.keep hb
  replace Z := Z.keep hb
  clear hb
  obtain ⟨z0, z1, z2, z3⟩ := Z
  all_goals go_wp2
  all_goals exact bodyPost_ret (v := .tuple #[.agg #[.int .i64 0, .int .i64 0], .bool false]) (by simp [results, Tryd.results14, go_sem, z0, z1]) rfl ⟨rfl, (by repeat (first | with_reducible assumption | with_reducible exact Below.refl _ _ | with_reducible refine belowS ?_ (Nat.le_refl _) _ | with_reducible refine belowS ?_ (by omega) _ | with_reducible refine belowN ?_ _ | with_reducible refine Below.drew ?_ | with_reducible refine belowA ?_ _ | with_reducible refine belowT ?_ (by assumption)))⟩

set_option maxHeartbeats 1000000 in
set_option maxRecDepth 100000 in
theorem parse_yes_true (s : ByteArray) (hn : (s.toList == nvL) = false) (top bot : ByteArray) (k0 : CutK s top bot true) (n d : Int) (k1 : YesK top n) (k2 : YesK bot d) (w : World) (he : Env w) :
    Calls Tryd.prog 14 #[.string s] w fun e w' => e = .returned (.tuple #[.agg #[.int .i64 n, .int .i64 d], .bool true]) ∧ Below w.heap.size w w' := by
  go_enter Tryd.func14, Tryd.ntmps14
  go_wp2_with fail
  refine (never_c _).mono ?_
  rintro e w1 ⟨rfl, hb⟩
  have WB := belowT (belowA (Below.refl _ w) _) hb
  have HE := he.keep WB
  have Z : ZT w.heap.size w1 := ZT.keep ⟨by go_simp, by go_simp, by go_simp, by go_simp⟩ hb
  clear hb
  go_wp2_with fail
  refine (text_nv _ HE).mono ?_
  rintro e w2 ⟨rfl, hb⟩
  replace WB := belowT WB hb
  replace HE := HE.keep hb
  replace Z := Z.keep hb
  clear hb
  go_wp2_with fail
  refine (k0 _ HE).mono ?_
  rintro e w3 ⟨rfl, hb⟩
  replace WB := belowT WB hb
  replace HE := HE.keep hb
  replace Z := Z.keep hb
  clear hb
  go_wp2_with fail
  refine (k1 _ HE).mono ?_
  rintro e w4 ⟨rfl, hb⟩
  replace WB := belowT WB hb
  replace HE := HE.keep hb
  replace Z := Z.keep hb
  clear hb
  go_wp2_with fail
  refine (k2 _ HE).mono ?_
  rintro e w5 ⟨rfl, hb⟩
  replace WB := belowT WB hb
  replace HE := HE.keep hb
  replace Z := Z.keep hb
  clear hb
  obtain ⟨z0, z1, z2, z3⟩ := Z
  go_wp2_with fail
  go_region
  all_goals go_wp2
  all_goals exact bodyPost_ret (v := .tuple #[.agg #[.int .i64 n, .int .i64 d], .bool true]) (by simp [results, Tryd.results14, go_sem, z0, z1]) rfl ⟨rfl, (by repeat (first | with_reducible assumption | with_reducible exact Below.refl _ _ | with_reducible refine belowS ?_ (Nat.le_refl _) _ | with_reducible refine belowS ?_ (by omega) _ | with_reducible refine belowN ?_ _ | with_reducible refine Below.drew ?_ | with_reducible refine belowA ?_ _ | with_reducible refine belowT ?_ (by assumption)))⟩

set_option maxHeartbeats 1000000 in
set_option maxRecDepth 100000 in
theorem parse_yes_false (s : ByteArray) (hn : (s.toList == nvL) = false) (top bot : ByteArray) (k0 : CutK s top bot false) (n d : Int) (k1 : YesK top n) (k2 : YesK ⟨#[49]⟩ d) (w : World) (he : Env w) :
    Calls Tryd.prog 14 #[.string s] w fun e w' => e = .returned (.tuple #[.agg #[.int .i64 n, .int .i64 d], .bool true]) ∧ Below w.heap.size w w' := by
  go_enter Tryd.func14, Tryd.ntmps14
  go_wp2_with fail
  refine (never_c _).mono ?_
  rintro e w1 ⟨rfl, hb⟩
  have WB := belowT (belowA (Below.refl _ w) _) hb
  have HE := he.keep WB
  have Z : ZT w.heap.size w1 := ZT.keep ⟨by go_simp, by go_simp, by go_simp, by go_simp⟩ hb
  clear hb
  go_wp2_with fail
  refine (text_nv _ HE).mono ?_
  rintro e w2 ⟨rfl, hb⟩
  replace WB := belowT WB hb
  replace HE := HE.keep hb
  replace Z := Z.keep hb
  clear hb
  go_wp2_with fail
  refine (k0 _ HE).mono ?_
  rintro e w3 ⟨rfl, hb⟩
  replace WB := belowT WB hb
  replace HE := HE.keep hb
  replace Z := Z.keep hb
  clear hb
  go_wp2_with fail
  refine (k1 _ HE).mono ?_
  rintro e w4 ⟨rfl, hb⟩
  replace WB := belowT WB hb
  replace HE := HE.keep hb
  replace Z := Z.keep hb
  clear hb
  go_wp2_with fail
  refine (k2 _ HE).mono ?_
  rintro e w5 ⟨rfl, hb⟩
  replace WB := belowT WB hb
  replace HE := HE.keep hb
  replace Z := Z.keep hb
  clear hb
  obtain ⟨z0, z1, z2, z3⟩ := Z
  go_wp2_with fail
  go_region
  all_goals go_wp2
  all_goals exact bodyPost_ret (v := .tuple #[.agg #[.int .i64 n, .int .i64 d], .bool true]) (by simp [results, Tryd.results14, go_sem, z0, z1]) rfl ⟨rfl, (by repeat (first | with_reducible assumption | with_reducible exact Below.refl _ _ | with_reducible refine belowS ?_ (Nat.le_refl _) _ | with_reducible refine belowS ?_ (by omega) _ | with_reducible refine belowN ?_ _ | with_reducible refine Below.drew ?_ | with_reducible refine belowA ?_ _ | with_reducible refine belowT ?_ (by assumption)))⟩

set_option maxHeartbeats 1000000 in
set_option maxRecDepth 100000 in
theorem parse_botno (s : ByteArray) (hn : (s.toList == nvL) = false) (top bot : ByteArray) (k0 : CutK s top bot true) (n : Int) (k1 : YesK top n) (k2 : NoK bot) (w : World) (he : Env w) :
    Calls Tryd.prog 14 #[.string s] w fun e w' => ∃ x : Int, In64 x ∧ e = .returned (.tuple #[.agg #[.int .i64 n, .int .i64 x], .bool false]) ∧ Below w.heap.size w w' := by
  go_enter Tryd.func14, Tryd.ntmps14
  go_wp2_with fail
  refine (never_c _).mono ?_
  rintro e w1 ⟨rfl, hb⟩
  have WB := belowT (belowA (Below.refl _ w) _) hb
  have HE := he.keep WB
  have Z : ZT w.heap.size w1 := ZT.keep ⟨by go_simp, by go_simp, by go_simp, by go_simp⟩ hb
  clear hb
  go_wp2_with fail
  refine (text_nv _ HE).mono ?_
  rintro e w2 ⟨rfl, hb⟩
  replace WB := belowT WB hb
  replace HE := HE.keep hb
  replace Z := Z.keep hb
  clear hb
  go_wp2_with fail
  refine (k0 _ HE).mono ?_
  rintro e w3 ⟨rfl, hb⟩
  replace WB := belowT WB hb
  replace HE := HE.keep hb
  replace Z := Z.keep hb
  clear hb
  go_wp2_with fail
  refine (k1 _ HE).mono ?_
  rintro e w4 ⟨rfl, hb⟩
  replace WB := belowT WB hb
  replace HE := HE.keep hb
  replace Z := Z.keep hb
  clear hb
  go_wp2_with fail
  refine (k2 _ HE).mono ?_
  rintro e w5 ⟨x, N, rfl, hx, hb⟩
  replace WB := belowT WB hb
  replace HE := HE.keep hb
  replace Z := Z.keep hb
  clear hb
  obtain ⟨z0, z1, z2, z3⟩ := Z
  go_wp2_with fail
  go_region
  all_goals go_wp2
  all_goals exact bodyPost_ret (v := .tuple #[.agg #[.int .i64 n, .int .i64 x], .bool false]) (by simp [results, Tryd.results14, go_sem, z0, z1]) rfl ⟨x, hx, rfl, (by repeat (first | with_reducible assumption | with_reducible exact Below.refl _ _ | with_reducible refine belowS ?_ (Nat.le_refl _) _ | with_reducible refine belowS ?_ (by omega) _ | with_reducible refine belowN ?_ _ | with_reducible refine Below.drew ?_ | with_reducible refine belowA ?_ _ | with_reducible refine belowT ?_ (by assumption)))⟩
end Go.Proofs.YtaicfgimaeojbaaDoor
