/-
  The contract of the given package gavotteref01's Digits over this seat's translation. Conditions: the text is not too long.
-/
import Derived.Test.YtaicfgimaeojbaaDoorTextG
namespace Go.Proofs.YtaicfgimaeojbaaDoor
open Go.RowKit Tx
attribute [local go_sem ↓] Go.wp_at_zero Go.wp_at_succ

def DigP (l : List UInt8) (n : Int) (ok : Bool) : Prop := (ok = true ∧ 0 ≤ n ∧ n ≤ 9223372036854775807 ∧ l = Lib.decDigits n.toNat) ∨ (ok = false ∧ n = 0 ∧ ∀ m : Nat, (m : Int) ≤ 9223372036854775807 → l ≠ Lib.decDigits m)
def DigE (s : ByteArray) (e : Ending) : Prop := ∃ n ok, e = .returned (.tuple #[.int .i64 n, .bool ok]) ∧ DigP s.data.toList n ok
theorem digE_no {s : ByteArray} (h : ∀ m : Nat, (m : Int) ≤ 9223372036854775807 → s.data.toList ≠ Lib.decDigits m) : DigE s (.returned (.tuple #[.int .i64 0, .bool false])) := ⟨0, false, rfl, .inr ⟨rfl, rfl, h⟩⟩
theorem take_next (s : ByteArray) (k : Nat) (h : k < s.size) : s.data.toList.take (k + 1) = s.data.toList.take k ++ [s[k]] := by
  have h2 : k < s.data.toList.length := by rw [list_size]; exact h
  rw [List.take_succ_eq_append_getElem h2]
  rfl
/-- The digits up to k spell n. -/
def Dig0 (s : ByteArray) (n k : Nat) : Prop := (n : Int) ≤ 9223372036854775807 ∧ n = dval (s.data.toList.take k) ∧ ∀ c ∈ s.data.toList.take k, 48 ≤ c.toNat ∧ c.toNat ≤ 57
theorem dig0_zero (s : ByteArray) : Dig0 s 0 0 := ⟨by omega, rfl, fun c hc => by simp at hc⟩
theorem dig0_next {s : ByteArray} {n k : Nat} (h : Dig0 s n k) (hk : k < s.size) (hd : 48 ≤ s[k].toNat ∧ s[k].toNat ≤ 57) (hm : (n : Int) * 10 + (s[k].toNat - 48) ≤ 9223372036854775807) : Dig0 s (n * 10 + (s[k].toNat - 48)) (k + 1) := by
  obtain ⟨h1, h2, h3⟩ := h
  refine ⟨by omega, ?_, fun c hc => ?_⟩
  · rw [take_next s k hk, dval_snoc, ← h2]
  · rw [take_next s k hk, List.mem_append, List.mem_singleton] at hc
    rcases hc with hc | rfl
    · exact h3 c hc
    · exact hd
theorem dig_char {s : ByteArray} {k : Nat} (hk : k < s.size) (hd : s[k].toNat < 48 ∨ 57 < s[k].toNat) (m : Nat) : s.data.toList ≠ Lib.decDigits m := by
  intro e
  have hm : s[k] ∈ s.data.toList := by
    have : s[k] ∈ s.data.toList.take (k + 1) := by rw [take_next s k hk]; simp
    exact List.mem_of_mem_take this
  rw [e] at hm
  have := dec_chars m _ hm
  omega
theorem dig_large {s : ByteArray} {n k : Nat} (h : Dig0 s n k) (hk : k < s.size) (hm : 9223372036854775807 < (n : Int) * 10 + (s[k].toNat - 48)) (hd : 48 ≤ s[k].toNat) (m : Nat) (hmm : (m : Int) ≤ 9223372036854775807) : s.data.toList ≠ Lib.decDigits m := by
  intro e
  have h1 := dval_le (s.data.toList.take (k + 1)) (s.data.toList.drop (k + 1))
  rw [List.take_append_drop, take_next s k hk, dval_snoc, ← h.2.1] at h1
  have h2 : dval s.data.toList = m := by rw [e, dec_val]
  omega
theorem dig_zero {s : ByteArray} (h : s.size = 0) (m : Nat) : s.data.toList ≠ Lib.decDigits m := by
  intro e
  refine dec_ne m ?_
  rw [← e]
  exact List.eq_nil_of_length_eq_zero (by rw [list_size]; exact h)
theorem dig_long {s : ByteArray} (h : 19 < s.size) (m : Nat) (hm : (m : Int) ≤ 9223372036854775807) : s.data.toList ≠ Lib.decDigits m := by
  intro e
  have h1 := dec_len m hm
  rw [← e, list_size] at h1
  omega
theorem list_cons {s : ByteArray} (h : 0 < s.size) : ∃ r, s.data.toList = s[0] :: r := by
  have h1 := take_next s 0 h
  have h2 := List.take_append_drop 1 s.data.toList
  rw [h1] at h2
  exact ⟨_, h2.symm⟩
theorem dig_nought {s : ByteArray} (h : 1 < s.size) (h0 : 0 < s.size) (hz : s[0].toNat = 48) (m : Nat) : s.data.toList ≠ Lib.decDigits m := by
  intro e
  obtain ⟨r, hr⟩ := list_cons h0
  have e48 : s[0] = 48 := UInt8.toNat_inj.1 hz
  rw [e48] at hr
  have h2 := dec_zero m r (by rw [← e, hr])
  have h3 := list_size s
  rw [hr, h2] at h3
  simp at h3
  omega
theorem dig_whole {s : ByteArray} {n : Nat} (h : Dig0 s n s.size) (h0 : 0 < s.size) (hz : s.size = 1 ∨ ¬ s[0].toNat = 48) : DigE s (.returned (.tuple #[.int .i64 n, .bool true])) := by
  obtain ⟨h1, h2, h3⟩ := h
  have e : s.data.toList.take s.size = s.data.toList := by rw [← list_size, List.take_length]
  rw [e] at h2 h3
  refine ⟨n, true, rfl, .inl ⟨rfl, by omega, h1, ?_⟩⟩
  rw [Int.toNat_natCast, h2]
  refine (dec_dval (s.size - 1) s.data.toList (by rw [list_size]; omega) h3 ?_).symm
  rcases hz with hz | hz
  · exact .inl (by omega)
  · obtain ⟨r, hr⟩ := list_cons h0
    refine .inr fun e2 => hz ?_
    rw [hr] at e2
    simp at e2
    rw [e2]
    rfl

set_option maxHeartbeats 1000000 in
set_option maxRecDepth 100000 in
theorem digits_c (s : ByteArray) (hs : s.size ≤ 10000) (w : World) : Calls Tryd.prog 22 #[.string s] w fun e w' => DigE s e ∧ w = w' := by
  by_cases h0 : s.size = 0
  · have hb : ((s.size : Int) == 0) = true := by simp [h0]
    have H0 := Lib.hid h0
    clear h0
    go_enter Tryd.func22, Tryd.ntmps22
    go_wp2
    go_ret2
    exact ⟨digE_no fun m _ => dig_zero H0.out m, rfl⟩
  · have hb : ((s.size : Int) == 0) = false := by simp [h0]
    have h1 : 0 < s.size := by omega
    clear h0
    by_cases h19 : (19 : Int) < s.size
    · have H19 := Lib.hid h19
      go_enter Tryd.func22, Tryd.ntmps22
      go_wp2
      go_ret2
      exact ⟨digE_no fun m hm => dig_long (by have := H19.out; omega) m hm, rfl⟩
    · obtain ⟨x0, hx0⟩ : ∃ x : Nat, s[0].toNat = x := ⟨_, rfl⟩
      have X0 := hx0
      have HX0 := Lib.hid hx0
      clear hx0
      by_cases hz : x0 = 48
      · have hzb : ((x0 : Int) == 48) = true := by simp; omega
        by_cases h2 : (1 : Int) < s.size
        · have H2 := Lib.hid h2
          go_enter Tryd.func22, Tryd.ntmps22
          go_wp2
          go_ret2
          exact ⟨digE_no fun m hm => dig_nought (by have := H2.out; omega) h1 (HX0.out.trans hz) m, rfl⟩
        · have HZ : RowKit.Hid (s.size = 1 ∨ ¬ s[0].toNat = 48) := Lib.hid (.inl (by omega))
          go_enter Tryd.func22, Tryd.ntmps22
          go_wp2
          go_loop [4, 5] (fun vn vi => ∃ n k : Nat, k ≤ s.size ∧ vn = .int .i64 n ∧ vi = .int .i64 k ∧ Dig0 s n k) (fun _ vi => s.size - (intOf vi).toNat)
          case atStart => exact ⟨0, 0, Nat.zero_le _, rfl, rfl, dig0_zero s⟩
          case round =>
            obtain ⟨n, k, hk, rfl, rfl, hu⟩ := hrel
            have HU := Lib.hid hu
            have hn1 := hu.1
            clear hu
            by_cases hlt : k < s.size
            · obtain ⟨x, hx⟩ : ∃ x : Nat, s[k].toNat = x := ⟨_, rfl⟩
              have hx255 : x < 256 := by rw [← hx]; exact s[k].toNat_lt
              have HX := Lib.hid hx
              clear X0
              by_cases h48 : (x : Int) < 48
              · go_wp2
                go_ret2
                exact ⟨digE_no fun m _ => dig_char hlt (.inl (by have := HX.out; omega)) m, rfl⟩
              · by_cases h57 : (57 : Int) < x
                · go_wp2
                  go_ret2
                  exact ⟨digE_no fun m _ => dig_char hlt (.inr (by have := HX.out; omega)) m, rfl⟩
                · by_cases hbig : (922337203685477580 : Int) < n
                  · go_wp2
                    go_ret2
                    exact ⟨digE_no fun m hm => dig_large HU.out hlt (by have := HX.out; omega) (by have := HX.out; omega) m hm, rfl⟩
                  · by_cases heq : n = 922337203685477580
                    · have hb : ((n : Int) == 922337203685477580) = true := by simp; omega
                      by_cases h55 : (55 : Int) < x
                      · go_wp2
                        go_ret2
                        exact ⟨digE_no fun m hm => dig_large HU.out hlt (by have := HX.out; omega) (by have := HX.out; omega) m hm, rfl⟩
                      · go_wp2
                        go_round
                        case rel => exact ⟨n * 10 + (s[k].toNat - 48), k + 1, by omega, congrArg (Value.int .i64) (by have := HX.out; omega), by go_num, dig0_next HU.out hlt (by have := HX.out; omega) (by have := HX.out; omega)⟩
                        case measure => simp [intOf]; omega
                    · have hb : ((n : Int) == 922337203685477580) = false := by simp; omega
                      go_wp2
                      go_round
                      case rel => exact ⟨n * 10 + (s[k].toNat - 48), k + 1, by omega, congrArg (Value.int .i64) (by have := HX.out; omega), by go_num, dig0_next HU.out hlt (by have := HX.out; omega) (by have := HX.out; omega)⟩
                      case measure => simp [intOf]; omega
            · obtain rfl : k = s.size := by omega
              go_wp2
              go_ret2
              exact ⟨dig_whole HU.out h1 HZ.out, rfl⟩
      · have hzb : ((x0 : Int) == 48) = false := by simp; omega
        have HZ : RowKit.Hid (s.size = 1 ∨ ¬ s[0].toNat = 48) := Lib.hid (.inr (by rw [HX0.out]; exact hz))
        go_enter Tryd.func22, Tryd.ntmps22
        go_wp2
        go_loop [4, 5] (fun vn vi => ∃ n k : Nat, k ≤ s.size ∧ vn = .int .i64 n ∧ vi = .int .i64 k ∧ Dig0 s n k) (fun _ vi => s.size - (intOf vi).toNat)
        case atStart => exact ⟨0, 0, Nat.zero_le _, rfl, rfl, dig0_zero s⟩
        case round =>
          obtain ⟨n, k, hk, rfl, rfl, hu⟩ := hrel
          have HU := Lib.hid hu
          have hn1 := hu.1
          clear hu
          by_cases hlt : k < s.size
          · obtain ⟨x, hx⟩ : ∃ x : Nat, s[k].toNat = x := ⟨_, rfl⟩
            have hx255 : x < 256 := by rw [← hx]; exact s[k].toNat_lt
            have HX := Lib.hid hx
            clear X0
            by_cases h48 : (x : Int) < 48
            · go_wp2
              go_ret2
              exact ⟨digE_no fun m _ => dig_char hlt (.inl (by have := HX.out; omega)) m, rfl⟩
            · by_cases h57 : (57 : Int) < x
              · go_wp2
                go_ret2
                exact ⟨digE_no fun m _ => dig_char hlt (.inr (by have := HX.out; omega)) m, rfl⟩
              · by_cases hbig : (922337203685477580 : Int) < n
                · go_wp2
                  go_ret2
                  exact ⟨digE_no fun m hm => dig_large HU.out hlt (by have := HX.out; omega) (by have := HX.out; omega) m hm, rfl⟩
                · by_cases heq : n = 922337203685477580
                  · have hb : ((n : Int) == 922337203685477580) = true := by simp; omega
                    by_cases h55 : (55 : Int) < x
                    · go_wp2
                      go_ret2
                      exact ⟨digE_no fun m hm => dig_large HU.out hlt (by have := HX.out; omega) (by have := HX.out; omega) m hm, rfl⟩
                    · go_wp2
                      go_round
                      case rel => exact ⟨n * 10 + (s[k].toNat - 48), k + 1, by omega, congrArg (Value.int .i64) (by have := HX.out; omega), by go_num, dig0_next HU.out hlt (by have := HX.out; omega) (by have := HX.out; omega)⟩
                      case measure => simp [intOf]; omega
                  · have hb : ((n : Int) == 922337203685477580) = false := by simp; omega
                    go_wp2
                    go_round
                    case rel => exact ⟨n * 10 + (s[k].toNat - 48), k + 1, by omega, congrArg (Value.int .i64) (by have := HX.out; omega), by go_num, dig0_next HU.out hlt (by have := HX.out; omega) (by have := HX.out; omega)⟩
                    case measure => simp [intOf]; omega
          · obtain rfl : k = s.size := by omega
            go_wp2
            go_ret2
            exact ⟨dig_whole HU.out h1 HZ.out, rfl⟩
end Go.Proofs.YtaicfgimaeojbaaDoor
