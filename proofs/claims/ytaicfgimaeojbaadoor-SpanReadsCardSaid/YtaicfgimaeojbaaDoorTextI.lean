/-
  The contract of the given package gavotteref01's Read over this seat's translation. Conditions: the text is not too long.
-/
import Derived.Test.YtaicfgimaeojbaaDoorTextH
namespace Go.Proofs.YtaicfgimaeojbaaDoor
open Go.RowKit Tx
attribute [local go_sem ↓] Go.wp_at_zero Go.wp_at_succ

/-- Of the places from m on the first 47 before the end is k. -/
def Cut0 (s : ByteArray) (k m : Nat) : Prop := m ≤ k ∧ k ≤ s.size ∧ (∀ j, m ≤ j → j < k → s.data.toList[j]? ≠ some 47) ∧ (k < s.size → s.data.toList[k]? = some 47)
theorem get_at (s : ByteArray) (p : Nat) (h : p < s.size) : s.data.toList[p]? = some s[p] := by
  have h2 : p < s.data.toList.length := by rw [list_size]; exact h
  rw [List.getElem?_eq_getElem h2]
  rfl
theorem cut0_end (s : ByteArray) : Cut0 s s.size s.size := ⟨Nat.le_refl _, Nat.le_refl _, fun j h1 h2 => by omega, fun h => by omega⟩
theorem cut0_yes {s : ByteArray} {p : Nat} (hp : p < s.size) (h47 : s[p].toNat = 47) : Cut0 s p p :=
  ⟨Nat.le_refl _, by omega, fun j h1 h2 => by omega, fun _ => by rw [get_at s p hp, show s[p] = 47 from UInt8.toNat_inj.1 h47]⟩
theorem cut0_no {s : ByteArray} {k p : Nat} (h : Cut0 s k (p + 1)) (hp : p < s.size) (h47 : ¬ s[p].toNat = 47) : Cut0 s k p := by
  obtain ⟨h1, h2, h3, h4⟩ := h
  refine ⟨by omega, h2, fun j a b => ?_, h4⟩
  by_cases e : j = p
  · subst e
    rw [get_at s j hp]
    intro e2
    exact h47 (by rw [Option.some.inj e2]; rfl)
  · exact h3 j (by omega) b
theorem cut0_first {s : ByteArray} {k : Nat} (h : Cut0 s k 0) : First s.data.toList k := by
  obtain ⟨h1, h2, h3, h4⟩ := h
  exact ⟨by rw [list_size]; exact h2, fun j hj => h3 j (Nat.zero_le _) hj, fun hk => h4 (by rwa [list_size] at hk)⟩

theorem digP_true {l : List UInt8} {n : Int} (h : DigP l n true) : 0 ≤ n ∧ n ≤ 9223372036854775807 ∧ l = Lib.decDigits n.toNat := by
  rcases h with ⟨_, h⟩ | ⟨h, _⟩
  · exact h
  · simp at h
theorem digP_false {l : List UInt8} {n : Int} (h : DigP l n false) : ∀ m : Nat, (m : Int) ≤ 9223372036854775807 → l ≠ Lib.decDigits m := by
  rcases h with ⟨h, _⟩ | ⟨_, _, h⟩
  · simp at h
  · exact h
theorem no_top {l : List UInt8} {k : Nat} (hf : First l k) (hne : l ≠ neverL) {n : Int} (h : DigP (l.take k) n false) : ∀ n' d', ¬ T l n' d' := by
  intro n' d' ht
  have hm : ((n'.toNat : Nat) : Int) ≤ 9223372036854775807 := by have := ht.1.2; omega
  obtain ⟨h0, ⟨a1, a2, a3⟩ | ⟨a1, a2, a3, a4⟩⟩ := T_parts ht hne hf
  · exact digP_false h n'.toNat hm (by rw [a1, List.take_length]; exact a3)
  · exact digP_false h n'.toNat hm a3
theorem no_bot {l : List UInt8} {k : Nat} (hf : First l k) (hne : l ≠ neverL) (hk : k < l.length) {d : Int} (h : DigP (l.drop (k + 1)) d false) : ∀ n' d', ¬ T l n' d' := by
  intro n' d' ht
  obtain ⟨h0, ⟨a1, a2, a3⟩ | ⟨a1, a2, a3, a4⟩⟩ := T_parts ht hne hf
  · omega
  · exact digP_false h d'.toNat (by have := ht.2.1.2; omega) a4
theorem no_one {l : List UInt8} {k : Nat} (hf : First l k) (hne : l ≠ neverL) (hk : k < l.length) {d : Int} (h : DigP (l.drop (k + 1)) d true) (hd : ¬ 1 < d) : ∀ n' d', ¬ T l n' d' := by
  intro n' d' ht
  obtain ⟨h0, ⟨a1, a2, a3⟩ | ⟨a1, a2, a3, a4⟩⟩ := T_parts ht hne hf
  · omega
  · obtain ⟨b1, _, b3⟩ := digP_true h
    have := dec_inj (b3.symm.trans a4)
    omega
theorem no_right {l : List UInt8} {k : Nat} (hf : First l k) (hne : l ≠ neverL) {n d : Int} (hp : Parts l k n d) (hr : ¬ rightB n d = true) : ∀ n' d', ¬ T l n' d' := by
  intro n' d' ht
  obtain ⟨rfl, rfl⟩ := parts_inj hp (T_parts ht hne hf)
  exact hr ht.2.2.1
theorem parts_two {l : List UInt8} {k : Nat} (hk : k < l.length) {n d : Int} (h : DigP (l.take k) n true) (h2 : DigP (l.drop (k + 1)) d true) (hd : 1 < d) : Parts l k n d := by
  obtain ⟨a1, _, a3⟩ := digP_true h
  obtain ⟨_, _, b3⟩ := digP_true h2
  exact ⟨a1, .inr ⟨hk, hd, a3, b3⟩⟩
theorem parts_one {l : List UInt8} {k : Nat} (hk : k = l.length) {n : Int} (h : DigP (l.take k) n true) : Parts l k n 1 := by
  obtain ⟨a1, _, a3⟩ := digP_true h
  rw [hk, List.take_length] at a3
  exact ⟨a1, .inl ⟨hk, rfl, a3⟩⟩
theorem ext_top (s : ByteArray) (k : Nat) : (s.extract 0 k).data.toList = s.data.toList.take k := by
  rw [ByteArray.data_extract, Array.toList_extract]
  simp
theorem ext_bot (s : ByteArray) (k : Nat) : (s.extract (k + 1) s.size).data.toList = s.data.toList.drop (k + 1) := by
  rw [ByteArray.data_extract, Array.toList_extract]
  rw [List.extract_eq_take_drop, List.take_of_length_le]
  rw [List.length_drop, list_size]
  omega
theorem ext_size (s : ByteArray) (a b : Nat) (h : s.size ≤ 10000) : (s.extract a b).size ≤ 10000 := by
  rw [ByteArray.size_extract]
  omega

set_option maxHeartbeats 4000000 in
set_option maxRecDepth 100000 in
theorem rread_c (s : ByteArray) (hs : s.size ≤ 10000) (hn : (s.toList == nvL) = false) (hne : RowKit.Hid (s.data.toList ≠ neverL)) (w : World) :
    Calls Tryd.prog 10 #[.string s] w fun e w' => ∃ n d c, e = .returned (.tuple #[.agg #[.int .i64 n, .int .i64 d], .int .i64 c]) ∧ ReadP s.data.toList n d c ∧ Below w.heap.size w w' := by
  go_enter Tryd.func10, Tryd.ntmps10
  go_wp2
  go_loop [4, 5] (fun vc vi => ∃ k m : Nat, vc = .int .i64 k ∧ vi = .int .i64 ((m : Int) - 1) ∧ m ≤ s.size ∧ Cut0 s k m) (fun _ vi => (intOf vi + 1).toNat)
  case atStart => exact ⟨s.size, s.size, rfl, rfl, Nat.le_refl _, cut0_end s⟩
  case round =>
    obtain ⟨k, m, rfl, rfl, hm, hc⟩ := hrel
    have HC := Lib.hid hc
    have hk := hc.2.1
    clear hc
    cases m with
    | succ p =>
      rw [show (((p + 1 : Nat) : Int) - 1) = (p : Int) from by omega]
      have hp : p < s.size := by omega
      obtain ⟨x, hx⟩ : ∃ x : Nat, s[p].toNat = x := ⟨_, rfl⟩
      have HX := Lib.hid hx
      by_cases h47 : x = 47
      · have hb : ((x : Int) == 47) = true := by simp; omega
        go_wp2
        go_round
        case rel => exact ⟨p, p, rfl, by go_num, by omega, cut0_yes hp (HX.out.trans h47)⟩
        case measure => simp [intOf]
      · have hb : ((x : Int) == 47) = false := by simp; omega
        go_wp2
        go_round
        case rel => exact ⟨k, p, rfl, by go_num, by omega, cut0_no HC.out hp (fun e => h47 (HX.out.symm.trans e))⟩
        case measure => simp [intOf]
    | zero =>
      rw [show (((0 : Nat) : Int) - 1) = (-1 : Int) from by omega]
      have hf := cut0_first HC.out
      go_wp2_with fail
      refine (digits_c (s.extract 0 k) (ext_size s 0 k hs) _).mono ?_
      rintro e w1 ⟨⟨n, ok, rfl, hp⟩, rfl⟩
      rw [ext_top] at hp
      have HP := Lib.hid hp
      clear hp
      by_cases hlt : (k : Int) < s.size
      · have hll : k < s.data.toList.length := by rw [list_size]; omega
        go_wp2_with fail
        refine (digits_c (s.extract (k + 1) s.size) (ext_size s (k + 1) s.size hs) _).mono ?_
        rintro e w1 ⟨⟨d, okd, rfl, hq⟩, rfl⟩
        rw [ext_bot] at hq
        have HQ := Lib.hid hq
        clear hq
        cases ok with
        | false =>
          cases okd with
          | false =>
            go_wp2
            exact bodyPost_ret (v := .tuple #[.agg #[.int .i64 0, .int .i64 0], .int .i64 6]) (by simp [results, Tryd.results10, go_sem]) rfl ⟨0, 0, 6, rfl, .inr ⟨rfl, rfl, rfl, no_top hf hne.out HP.out⟩, (by repeat (first | with_reducible assumption | with_reducible exact Below.refl _ _ | with_reducible refine belowS ?_ (Nat.le_refl _) _ | with_reducible refine belowS ?_ (by omega) _ | with_reducible refine belowN ?_ _ | with_reducible refine Below.drew ?_ | with_reducible refine belowA ?_ _ | with_reducible refine belowT ?_ (by assumption)))⟩
          | true =>
            go_wp2
            exact bodyPost_ret (v := .tuple #[.agg #[.int .i64 0, .int .i64 0], .int .i64 6]) (by simp [results, Tryd.results10, go_sem]) rfl ⟨0, 0, 6, rfl, .inr ⟨rfl, rfl, rfl, no_top hf hne.out HP.out⟩, (by repeat (first | with_reducible assumption | with_reducible exact Below.refl _ _ | with_reducible refine belowS ?_ (Nat.le_refl _) _ | with_reducible refine belowS ?_ (by omega) _ | with_reducible refine belowN ?_ _ | with_reducible refine Below.drew ?_ | with_reducible refine belowA ?_ _ | with_reducible refine belowT ?_ (by assumption)))⟩
        | true =>
          cases okd with
          | false =>
            go_wp2
            exact bodyPost_ret (v := .tuple #[.agg #[.int .i64 0, .int .i64 0], .int .i64 6]) (by simp [results, Tryd.results10, go_sem]) rfl ⟨0, 0, 6, rfl, .inr ⟨rfl, rfl, rfl, no_bot hf hne.out hll HQ.out⟩, (by repeat (first | with_reducible assumption | with_reducible exact Below.refl _ _ | with_reducible refine belowS ?_ (Nat.le_refl _) _ | with_reducible refine belowS ?_ (by omega) _ | with_reducible refine belowN ?_ _ | with_reducible refine Below.drew ?_ | with_reducible refine belowA ?_ _ | with_reducible refine belowT ?_ (by assumption)))⟩
          | true =>
            by_cases hd : 1 < d
            · have HD := Lib.hid hd
              go_wp2_with fail
              refine (rright_c n d ⟨by have := digP_true HP.out; omega, (digP_true HP.out).2.1⟩ ⟨by have := digP_true HQ.out; omega, (digP_true HQ.out).2.1⟩ _).mono ?_
              rintro e w3 ⟨rfl, hb⟩
              have Z : ZT w.heap.size w3 := ZT.keep ⟨by go_simp, by go_simp, by go_simp, by go_simp⟩ hb
              have M0 : w3.cell? ⟨w.heap.size + 1, 0, none⟩ = some (.int .i64 n) := keepc hb (by go_simp)
              have M1 : w3.cell? ⟨w.heap.size + 1, 1, none⟩ = some (.int .i64 d) := keepc hb (by go_simp)
              have WB : Below w.heap.size w w3 := belowT (belowA (belowA (Below.refl _ w) _) _) hb
              clear hb
              obtain ⟨z0, z1, z2, z3⟩ := Z
              by_cases hr : rightB n d = true
              · have HR := Lib.hid hr
                go_wp2
                exact bodyPost_ret (v := .tuple #[.agg #[.int .i64 n, .int .i64 d], .int .i64 0]) (by simp [results, Tryd.results10, go_sem, z0, z1]) rfl ⟨n, d, 0, rfl, .inl ⟨rfl, T_of_parts ⟨by have := digP_true HP.out; omega, (digP_true HP.out).2.1⟩ ⟨by have := digP_true HQ.out; omega, (digP_true HQ.out).2.1⟩ HR.out hf (parts_two hll HP.out HQ.out HD.out)⟩, (by repeat (first | with_reducible assumption | with_reducible exact Below.refl _ _ | with_reducible refine belowS ?_ (Nat.le_refl _) _ | with_reducible refine belowS ?_ (by omega) _ | with_reducible refine belowN ?_ _ | with_reducible refine Below.drew ?_ | with_reducible refine belowA ?_ _ | with_reducible refine belowT ?_ (by assumption)))⟩
              · have HR := Lib.hid hr
                have hr2 : rightB n d = false := Bool.eq_false_iff.2 hr
                go_wp2
                exact bodyPost_ret (v := .tuple #[.agg #[.int .i64 0, .int .i64 0], .int .i64 6]) (by simp [results, Tryd.results10, go_sem, z0, z1]) rfl ⟨0, 0, 6, rfl, .inr ⟨rfl, rfl, rfl, no_right hf hne.out (parts_two hll HP.out HQ.out HD.out) HR.out⟩, (by repeat (first | with_reducible assumption | with_reducible exact Below.refl _ _ | with_reducible refine belowS ?_ (Nat.le_refl _) _ | with_reducible refine belowS ?_ (by omega) _ | with_reducible refine belowN ?_ _ | with_reducible refine Below.drew ?_ | with_reducible refine belowA ?_ _ | with_reducible refine belowT ?_ (by assumption)))⟩
            · have HD := Lib.hid hd
              go_wp2
              exact bodyPost_ret (v := .tuple #[.agg #[.int .i64 0, .int .i64 0], .int .i64 6]) (by simp [results, Tryd.results10, go_sem]) rfl ⟨0, 0, 6, rfl, .inr ⟨rfl, rfl, rfl, no_one hf hne.out hll HQ.out (by have := HD.out; omega)⟩, (by repeat (first | with_reducible assumption | with_reducible exact Below.refl _ _ | with_reducible refine belowS ?_ (Nat.le_refl _) _ | with_reducible refine belowS ?_ (by omega) _ | with_reducible refine belowN ?_ _ | with_reducible refine Below.drew ?_ | with_reducible refine belowA ?_ _ | with_reducible refine belowT ?_ (by assumption)))⟩
      · have hkl : k = s.data.toList.length := by rw [list_size]; omega
        cases ok with
        | false =>
          go_wp2
          exact bodyPost_ret (v := .tuple #[.agg #[.int .i64 0, .int .i64 0], .int .i64 6]) (by simp [results, Tryd.results10, go_sem]) rfl ⟨0, 0, 6, rfl, .inr ⟨rfl, rfl, rfl, no_top hf hne.out HP.out⟩, (by repeat (first | with_reducible assumption | with_reducible exact Below.refl _ _ | with_reducible refine belowS ?_ (Nat.le_refl _) _ | with_reducible refine belowS ?_ (by omega) _ | with_reducible refine belowN ?_ _ | with_reducible refine Below.drew ?_ | with_reducible refine belowA ?_ _ | with_reducible refine belowT ?_ (by assumption)))⟩
        | true =>
          go_wp2_with fail
          refine (rright_c n 1 ⟨by have := digP_true HP.out; omega, (digP_true HP.out).2.1⟩ ⟨by omega, by omega⟩ _).mono ?_
          rintro e w3 ⟨rfl, hb⟩
          have Z : ZT w.heap.size w3 := ZT.keep ⟨by go_simp, by go_simp, by go_simp, by go_simp⟩ hb
          have M0 : w3.cell? ⟨w.heap.size + 1, 0, none⟩ = some (.int .i64 n) := keepc hb (by go_simp)
          have M1 : w3.cell? ⟨w.heap.size + 1, 1, none⟩ = some (.int .i64 1) := keepc hb (by go_simp)
          have WB : Below w.heap.size w w3 := belowT (belowA (belowA (Below.refl _ w) _) _) hb
          clear hb
          obtain ⟨z0, z1, z2, z3⟩ := Z
          by_cases hr : rightB n 1 = true
          · have HR := Lib.hid hr
            go_wp2
            exact bodyPost_ret (v := .tuple #[.agg #[.int .i64 n, .int .i64 1], .int .i64 0]) (by simp [results, Tryd.results10, go_sem, z0, z1]) rfl ⟨n, 1, 0, rfl, .inl ⟨rfl, T_of_parts ⟨by have := digP_true HP.out; omega, (digP_true HP.out).2.1⟩ ⟨by omega, by omega⟩ HR.out hf (parts_one hkl HP.out)⟩, (by repeat (first | with_reducible assumption | with_reducible exact Below.refl _ _ | with_reducible refine belowS ?_ (Nat.le_refl _) _ | with_reducible refine belowS ?_ (by omega) _ | with_reducible refine belowN ?_ _ | with_reducible refine Below.drew ?_ | with_reducible refine belowA ?_ _ | with_reducible refine belowT ?_ (by assumption)))⟩
          · have HR := Lib.hid hr
            have hr2 : rightB n 1 = false := Bool.eq_false_iff.2 hr
            go_wp2
            exact bodyPost_ret (v := .tuple #[.agg #[.int .i64 0, .int .i64 0], .int .i64 6]) (by simp [results, Tryd.results10, go_sem, z0, z1]) rfl ⟨0, 0, 6, rfl, .inr ⟨rfl, rfl, rfl, no_right hf hne.out (parts_one hkl HP.out) HR.out⟩, (by repeat (first | with_reducible assumption | with_reducible exact Below.refl _ _ | with_reducible refine belowS ?_ (Nat.le_refl _) _ | with_reducible refine belowS ?_ (by omega) _ | with_reducible refine belowN ?_ _ | with_reducible refine Below.drew ?_ | with_reducible refine belowA ?_ _ | with_reducible refine belowT ?_ (by assumption)))⟩

theorem rread_never (w : World) :
    Calls Tryd.prog 10 #[.string ⟨#[110, 101, 118, 101, 114]⟩] w fun e w' => e = .returned (.tuple #[.agg #[.int .i64 1, .int .i64 0], .int .i64 0]) ∧ Below w.heap.size w w' := by
  go_enter Tryd.func10, Tryd.ntmps10
  go_wp2
  exact bodyPost_ret (v := .tuple #[.agg #[.int .i64 1, .int .i64 0], .int .i64 0]) (by simp [results, Tryd.results10, go_sem]) rfl ⟨rfl, (by repeat (first | with_reducible assumption | with_reducible exact Below.refl _ _ | with_reducible refine belowS ?_ (Nat.le_refl _) _ | with_reducible refine belowS ?_ (by omega) _ | with_reducible refine belowN ?_ _ | with_reducible refine Below.drew ?_ | with_reducible refine belowA ?_ _ | with_reducible refine belowT ?_ (by assumption)))⟩
end Go.Proofs.YtaicfgimaeojbaaDoor
