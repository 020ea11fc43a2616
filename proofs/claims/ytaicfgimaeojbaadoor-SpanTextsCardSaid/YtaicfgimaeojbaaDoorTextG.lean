/-
  The contracts of span.parse and span.Read over this seat's translation, whole. Conditions: the text is not too long; the world bears what the library's functions on texts read.
-/
import Derived.Test.YtaicfgimaeojbaaDoorTextF
namespace Go.Proofs.YtaicfgimaeojbaaDoor
open Go.RowKit Tx
attribute [local go_sem ↓] Go.wp_at_zero Go.wp_at_succ

theorem bs_list (s : ByteArray) : (⟨s.data.toList.toArray⟩ : ByteArray) = s := by
  apply ByteArray.ext
  simp
theorem list_size (s : ByteArray) : s.data.toList.length = s.size := Array.length_toList
theorem size_bs (l : List UInt8) : ByteArray.size ⟨l.toArray⟩ = l.length := List.size_toArray
def ParP (l : List UInt8) (n d : Int) (ok : Bool) : Prop := In64 n ∧ In64 d ∧ (ok = true → l ≠ []) ∧ ∀ n' d', T l n' d' → ok = true ∧ n = n' ∧ d = d'
theorem no_of {l : List UInt8} (h : ∀ v, Lib.atoiAll l ≠ .ok v) {n : Int} (hn : In64 n) (h0 : 0 ≤ n) : l ≠ Lib.decDigits n.toNat := by
  intro e
  refine h n.toNat ?_
  rw [e, atoi_dec n.toNat (by have := hn.2; omega)]
theorem ok_of {l : List UInt8} {v : Int} (h : Lib.atoiAll l = .ok v) {n : Int} (hn : In64 n) (h0 : 0 ≤ n) (e : l = Lib.decDigits n.toNat) : v = n := by
  rw [e, atoi_dec n.toNat (by have := hn.2; omega)] at h
  injection h with h
  omega
theorem atoi_one : Lib.atoiAll [49] = .ok 1 := by decide +kernel
theorem atoi_nil (v : Int) : Lib.atoiAll [] ≠ .ok v := by intro h; cases h

set_option maxHeartbeats 400000 in
theorem parse_c (s : ByteArray) (hs : s.size ≤ 10000) (w : World) (he : Env w) :
    Calls Tryd.prog 14 #[.string s] w fun e w' => ∃ n d ok, e = .returned (.tuple #[.agg #[.int .i64 n, .int .i64 d], .bool ok]) ∧ ParP s.data.toList n d ok ∧ Below w.heap.size w w' := by
  by_cases hnv : s.data.toList = neverL
  · have e : s = ⟨#[110, 101, 118, 101, 114]⟩ := by rw [← bs_list s, hnv]; rfl
    refine (e ▸ parse_never w he : Calls _ _ #[.string s] _ _).mono ?_
    rintro e w' ⟨rfl, hb⟩
    refine ⟨1, 0, true, rfl, ⟨⟨by omega, by omega⟩, ⟨by omega, by omega⟩, fun _ => by rw [hnv]; simp [neverL], fun n' d' ht => ?_⟩, hb⟩
    rw [hnv] at ht
    have := T_is_never ht
    exact ⟨rfl, by omega, by omega⟩
  · have hn : (s.toList == nvL) = false := by
      rw [beq_eq_false_iff_ne, ByteArray.toList_eq]
      exact hnv
    obtain ⟨k, hf, hc⟩ := cut_first s.data.toList
    have K0 : CutK s ⟨(Lib.cut s.data.toList [47]).1.toArray⟩ ⟨(Lib.cut s.data.toList [47]).2.1.toArray⟩ (Lib.cut s.data.toList [47]).2.2 := fun w he => cut_c s hs w he
    have hlen : s.data.toList.length ≤ 10000 := by rw [list_size]; exact hs
    have hpar : ∀ {n' d'}, T s.data.toList n' d' → Parts s.data.toList k n' d' := fun ht => T_parts ht hnv hf
    by_cases hk : k < s.data.toList.length
    · rw [if_pos hk] at hc
      rw [hc] at K0
      have ht1 : (ByteArray.size ⟨(s.data.toList.take k).toArray⟩) ≤ 10000 := by rw [size_bs, List.length_take]; omega
      have ht2 : (ByteArray.size ⟨(s.data.toList.drop (k + 1)).toArray⟩) ≤ 10000 := by rw [size_bs, List.length_drop]; omega
      by_cases h1 : ∃ v, Lib.atoiAll (s.data.toList.take k) = .ok v
      · obtain ⟨n, h1⟩ := h1
        have K1 : YesK ⟨(s.data.toList.take k).toArray⟩ n := fun w _ => atoi_yes _ ht1 n h1 w
        by_cases h2 : ∃ v, Lib.atoiAll (s.data.toList.drop (k + 1)) = .ok v
        · obtain ⟨d, h2⟩ := h2
          have K2 : YesK ⟨(s.data.toList.drop (k + 1)).toArray⟩ d := fun w _ => atoi_yes _ ht2 d h2 w
          refine (parse_yes_true s hn _ _ K0 n d K1 K2 w he).mono ?_
          rintro e w' ⟨rfl, hb⟩
          refine ⟨n, d, true, rfl, ⟨Lib.atoiAll_bounds h1, Lib.atoiAll_bounds h2, fun _ e => by rw [e] at hk; simp at hk, fun n' d' ht => ?_⟩, hb⟩
          obtain ⟨h0, ⟨a1, _⟩ | ⟨a1, a2, a3, a4⟩⟩ := hpar ht
          · omega
          · exact ⟨rfl, ok_of h1 ht.1 h0 a3, ok_of h2 ht.2.1 (by omega) a4⟩
        · have h2' : ∀ v, Lib.atoiAll (s.data.toList.drop (k + 1)) ≠ .ok v := fun v e => h2 ⟨v, e⟩
          have K2 : NoK ⟨(s.data.toList.drop (k + 1)).toArray⟩ := fun w he => atoi_no _ ht2 h2' w he
          refine (parse_botno s hn _ _ K0 n K1 K2 w he).mono ?_
          rintro e w' ⟨x, hx, rfl, hb⟩
          refine ⟨n, x, false, rfl, ⟨Lib.atoiAll_bounds h1, hx, fun e => by simp at e, fun n' d' ht => ?_⟩, hb⟩
          obtain ⟨h0, ⟨a1, _⟩ | ⟨a1, a2, a3, a4⟩⟩ := hpar ht
          · omega
          · exact absurd a4 (no_of h2' ht.2.1 (by omega))
      · have h1' : ∀ v, Lib.atoiAll (s.data.toList.take k) ≠ .ok v := fun v e => h1 ⟨v, e⟩
        have K1 : NoK ⟨(s.data.toList.take k).toArray⟩ := fun w he => atoi_no _ ht1 h1' w he
        refine (parse_topno_true s hn _ _ K0 K1 w he).mono ?_
        rintro e w' ⟨rfl, hb⟩
        refine ⟨0, 0, false, rfl, ⟨⟨by omega, by omega⟩, ⟨by omega, by omega⟩, fun e => by simp at e, fun n' d' ht => ?_⟩, hb⟩
        obtain ⟨h0, ⟨a1, _⟩ | ⟨a1, a2, a3, a4⟩⟩ := hpar ht
        · omega
        · exact absurd a3 (no_of h1' ht.1 h0)
    · rw [if_neg hk] at hc
      rw [hc] at K0
      have ht1 : (ByteArray.size ⟨s.data.toList.toArray⟩) ≤ 10000 := by rw [size_bs]; omega
      by_cases h1 : ∃ v, Lib.atoiAll s.data.toList = .ok v
      · obtain ⟨n, h1⟩ := h1
        have K1 : YesK ⟨s.data.toList.toArray⟩ n := fun w _ => atoi_yes _ ht1 n (by simpa using h1) w
        have K2 : YesK ⟨#[49]⟩ 1 := fun w _ => atoi_yes _ (by decide) 1 atoi_one w
        refine (parse_yes_false s hn _ _ K0 n 1 K1 K2 w he).mono ?_
        rintro e w' ⟨rfl, hb⟩
        refine ⟨n, 1, true, rfl, ⟨Lib.atoiAll_bounds h1, ⟨by omega, by omega⟩, fun _ e => by rw [e] at h1; exact absurd h1 (atoi_nil n), fun n' d' ht => ?_⟩, hb⟩
        obtain ⟨h0, ⟨a1, a2, a3⟩ | ⟨a1, _⟩⟩ := hpar ht
        · exact ⟨rfl, ok_of h1 ht.1 h0 a3, a2.symm⟩
        · exact absurd a1 hk
      · have h1' : ∀ v, Lib.atoiAll s.data.toList ≠ .ok v := fun v e => h1 ⟨v, e⟩
        have K1 : NoK ⟨s.data.toList.toArray⟩ := fun w he => atoi_no _ ht1 (by simpa using h1') w he
        refine (parse_topno_false s hn _ _ K0 K1 w he).mono ?_
        rintro e w' ⟨rfl, hb⟩
        refine ⟨0, 0, false, rfl, ⟨⟨by omega, by omega⟩, ⟨by omega, by omega⟩, fun e => by simp at e, fun n' d' ht => ?_⟩, hb⟩
        obtain ⟨h0, ⟨a1, a2, a3⟩ | ⟨a1, _⟩⟩ := hpar ht
        · exact absurd a3 (no_of h1' ht.1 h0)
        · exact absurd a1 hk

def ReadP (l : List UInt8) (n d c : Int) : Prop := (c = 0 ∧ T l n d) ∨ (c = 6 ∧ n = 0 ∧ d = 0 ∧ ∀ n' d', ¬ T l n' d')
theorem ReadP.same {l : List UInt8} {n d c n' d' c' : Int} (h : ReadP l n d c) (h' : ReadP l n' d' c') : n = n' ∧ d = d' ∧ c = c' := by
  rcases h with ⟨rfl, h⟩ | ⟨rfl, rfl, rfl, h⟩ <;> rcases h' with ⟨rfl, h'⟩ | ⟨rfl, rfl, rfl, h'⟩
  · have := T_inj h h'
    exact ⟨this.1, this.2, rfl⟩
  · exact absurd h (h' _ _)
  · exact absurd h' (h _ _)
  · exact ⟨rfl, rfl, rfl⟩
theorem textS_list {n d : Int} (h : rightB n d = true) : (textS n d).toList = textL n d := by
  rw [ByteArray.toList_eq]
  unfold textS
  rw [if_pos h]
theorem text_eq {s : ByteArray} {n d : Int} (h : (textS n d).toList = s.toList) (hne : true = true → s.data.toList ≠ []) : rightB n d = true ∧ s.data.toList = textL n d := by
  by_cases hr : rightB n d = true
  · refine ⟨hr, ?_⟩
    rw [textS_list hr, ByteArray.toList_eq] at h
    exact h.symm
  · exfalso
    refine hne rfl ?_
    rw [textS_wrong hr, ByteArray.toList_eq, ByteArray.toList_eq] at h
    exact h.symm

set_option maxHeartbeats 1000000 in
set_option maxRecDepth 100000 in
theorem read_c (s : ByteArray) (hs : s.size ≤ 10000) (w : World) (he : Env w) :
    Calls Tryd.prog 6 #[.string s] w fun e w' => ∃ n d c, e = .returned (.tuple #[.agg #[.int .i64 n, .int .i64 d], .int .i64 c]) ∧ ReadP s.data.toList n d c ∧ Below w.heap.size w w' := by
  go_enter Tryd.func6, Tryd.ntmps6
  go_wp2_with fail
  refine (parse_c s hs _ (he.keep (belowA (Below.refl _ w) _))).mono ?_
  rintro e w1 ⟨n, d, ok, rfl, hp, hb⟩
  have HP := Lib.hid hp
  clear hp
  have WB := belowT (belowA (Below.refl _ w) _) hb
  have HE := he.keep WB
  have Z : ZT w.heap.size w1 := ZT.keep ⟨by go_simp, by go_simp, by go_simp, by go_simp⟩ hb
  clear hb
  replace Z := Z.keep (belowA (Below.refl _ w1) (.cells #[.int .i64 n, .int .i64 d] 23))
  cases ok with
  | false =>
    obtain ⟨z0, z1, z2, z3⟩ := Z
    go_wp2
    exact bodyPost_ret (v := .tuple #[.agg #[.int .i64 0, .int .i64 0], .int .i64 6]) (by simp [results, Tryd.results6, go_sem, z0, z1]) rfl ⟨0, 0, 6, rfl, .inr ⟨rfl, rfl, rfl, fun n' d' ht => by have := (HP.out.2.2.2 n' d' ht).1; simp at this⟩, (by repeat (first | with_reducible assumption | with_reducible exact Below.refl _ _ | with_reducible refine belowS ?_ (Nat.le_refl _) _ | with_reducible refine belowS ?_ (by omega) _ | with_reducible refine belowN ?_ _ | with_reducible refine Below.drew ?_ | with_reducible refine belowA ?_ _ | with_reducible refine belowT ?_ (by assumption)))⟩
  | true =>
    go_wp2_with fail
    refine (text_c n d HP.out.1 HP.out.2.1 _ (HE.keep (belowA (Below.refl _ w1) _))).mono ?_
    rintro e w2 ⟨rfl, hb⟩
    have M0 : w2.cell? ⟨w1.heap.size, 0, none⟩ = some (.int .i64 n) := keepc hb (by go_simp)
    have M1 : w2.cell? ⟨w1.heap.size, 1, none⟩ = some (.int .i64 d) := keepc hb (by go_simp)
    replace Z := Z.keep hb
    replace WB := belowT (belowA WB _) hb
    clear hb
    obtain ⟨z0, z1, z2, z3⟩ := Z
    by_cases hq : (textS n d).toList = s.toList
    · have hqb : ((textS n d).toList == s.toList) = true := by simpa using hq
      go_wp2
      exact bodyPost_ret (v := .tuple #[.agg #[.int .i64 n, .int .i64 d], .int .i64 0]) (by simp [results, Tryd.results6, go_sem, z0, z1]) rfl ⟨n, d, 0, rfl, .inl ⟨rfl, HP.out.1, HP.out.2.1, (text_eq hq HP.out.2.2.1).1, (text_eq hq HP.out.2.2.1).2⟩, (by repeat (first | with_reducible assumption | with_reducible exact Below.refl _ _ | with_reducible refine belowS ?_ (Nat.le_refl _) _ | with_reducible refine belowS ?_ (by omega) _ | with_reducible refine belowN ?_ _ | with_reducible refine Below.drew ?_ | with_reducible refine belowA ?_ _ | with_reducible refine belowT ?_ (by assumption)))⟩
    · have hqb : ((textS n d).toList == s.toList) = false := by simpa using hq
      go_wp2
      exact bodyPost_ret (v := .tuple #[.agg #[.int .i64 0, .int .i64 0], .int .i64 6]) (by simp [results, Tryd.results6, go_sem, z0, z1]) rfl ⟨0, 0, 6, rfl, .inr ⟨rfl, rfl, rfl, fun n' d' ht => hq (by
        obtain ⟨_, rfl, rfl⟩ := HP.out.2.2.2 n' d' ht
        rw [textS_list ht.2.2.1, ByteArray.toList_eq]
        exact ht.2.2.2.symm)⟩, (by repeat (first | with_reducible assumption | with_reducible exact Below.refl _ _ | with_reducible refine belowS ?_ (Nat.le_refl _) _ | with_reducible refine belowS ?_ (by omega) _ | with_reducible refine belowN ?_ _ | with_reducible refine Below.drew ?_ | with_reducible refine belowA ?_ _ | with_reducible refine belowT ?_ (by assumption)))⟩
end Go.Proofs.YtaicfgimaeojbaaDoor
