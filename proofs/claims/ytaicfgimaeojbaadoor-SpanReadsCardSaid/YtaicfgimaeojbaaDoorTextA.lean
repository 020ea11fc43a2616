/-
  The contract of the given package gavotteref01's Dec over this seat's translation: an int from nought on, in decimal. Conditions: those that each theorem states.
-/
import Derived.Test.YtaicfgimaeojbaaDoorRefSa
import Derived.Test.YtaicfgimaeojbaaDoorSpanG
import Derived.Lib.ItoaNum
import Derived.Laws.IdiomStrings
namespace Go.Proofs.YtaicfgimaeojbaaDoor
open Go.RowKit
attribute [local go_sem ↓] Go.wp_at_zero Go.wp_at_succ

def decTop (n : Nat) : List UInt8 := if n = 0 then [] else Lib.decDigits n
theorem decTop_step (n : Nat) (h : 0 < n) : decTop n = decTop (n / 10) ++ [UInt8.ofNat (48 + n % 10)] := by
  unfold decTop
  rw [if_neg (by omega)]
  by_cases h2 : n < 10
  · rw [Lib.decDigits, dif_pos h2, if_pos (by omega), Nat.mod_eq_of_lt h2]
    rfl
  · rw [Lib.decDigits, dif_neg h2, if_neg (by omega)]
theorem dec_first (n : Nat) : Lib.decDigits n = decTop (n / 10) ++ [UInt8.ofNat (48 + n % 10)] := by
  unfold decTop
  by_cases h2 : n < 10
  · rw [Lib.decDigits, dif_pos h2, if_pos (by omega), Nat.mod_eq_of_lt h2]
    rfl
  · rw [Lib.decDigits, dif_neg h2, if_neg (by omega)]

theorem conv_one (w : World) (x : Nat) (hx : x < 256) (b : UInt8) (hb : UInt8.ofNat x = b) :
    (convert 62 9 (.slice (some ⟨w.heap.size, 0, none⟩) 1 1)).run Tryd.prog (w.alloc (.cells #[.int .u8 (x : Int)] 5)) = .ok (.string ⟨#[b]⟩) (w.alloc (.cells #[.int .u8 (x : Int)] 5)) := by
  subst hb
  refine run_convert_bytes_back _ 62 9 5 ⟨w.heap.size, 0, none⟩ 1 [UInt8.ofNat x] Tryd.underlying62 Tryd.underlying5 Tryd.underlying9 ?_
  intro j hj
  simp at hj
  subst hj
  rw [show ([UInt8.ofNat x][0]).toNat = x from by simp; omega]
  exact cell_one_new _ _ _ 0 _ rfl

theorem bapp (a l : List UInt8) : (⟨a.toArray⟩ : ByteArray) ++ (⟨l.toArray⟩ : ByteArray) = ⟨(a ++ l).toArray⟩ := by
  apply ByteArray.ext
  rw [ByteArray.data_append]
  simp
theorem nd_le : ∀ (k u : Nat), 1 ≤ k → u < 10 ^ k → Lib.nDigits u ≤ k
  | 0, _, h, _ => by omega
  | k + 1, u, _, h => by
    by_cases h2 : u < 10
    · rw [Lib.nDigits_small h2]; omega
    · rw [Lib.nDigits_big h2]
      rw [Nat.pow_succ] at h
      have hk : 1 ≤ k := by
        rcases Nat.eq_zero_or_pos k with rfl | hk
        · omega
        · exact hk
      have := nd_le k (u / 10) hk (by omega)
      omega
theorem dec_len (n : Nat) (h : (n : Int) ≤ 9223372036854775807) : (Lib.decDigits n).length ≤ 19 := by
  rw [Lib.decDigits_length]
  exact nd_le 19 n (by omega) (by omega)

def DecRel (w : World) (n0 : Nat) (vn vs : Value) (wr : World) : Prop :=
  ∃ (n : Nat) (l : List UInt8), vn = .int .i64 n ∧ vs = .string ⟨l.toArray⟩ ∧ n ≤ n0 ∧ decTop n ++ l = Lib.decDigits n0 ∧ Below w.heap.size w wr

set_option maxHeartbeats 2000000 in
set_option maxRecDepth 100000 in
theorem dec_c (n : Nat) (h1 : (n : Int) ≤ 9223372036854775807) (w : World) :
    Calls Tryd.prog 21 #[.int .i64 n] w fun e w' => e = .returned (.string ⟨(Lib.decDigits n).toArray⟩) ∧ Below w.heap.size w w' := by
  go_enter Tryd.func21, Tryd.ntmps21
  obtain ⟨b0, hb0⟩ : ∃ b, UInt8.ofNat (48 + n % 10) = b := ⟨_, rfl⟩
  have hc0 := conv_one w (48 + n % 10) (by omega) b0 hb0
  have B0 := Lib.hid (hb0 ▸ dec_first n)
  clear hb0
  rw [show ((48 + n % 10 : Nat) : Int) = 48 + (n : Int) % 10 from by omega] at hc0
  go_wp2
  go_loopw [0, 3] (fun vn vs wr => DecRel w n vn vs wr) (fun vn _ _ => (intOf vn).toNat)
  case atStart => exact ⟨n / 10, [b0], by simp, rfl, by omega, B0.out.symm, belowA (Below.refl _ _) _⟩
  case round =>
    obtain ⟨m, l, rfl, rfl, hm, hs, hbl⟩ := hrel
    have HS := Lib.hid hs
    clear hs hc0
    have hll : l.length ≤ 19 := by
      have h2 := dec_len n h1
      rw [← HS.out, List.length_append] at h2
      omega
    by_cases h : 0 < m
    · have hmi : (0 : Int) < (m : Int) := by omega
      obtain ⟨b1, hb1⟩ : ∃ b, UInt8.ofNat (48 + m % 10) = b := ⟨_, rfl⟩
      have hc1 := conv_one wr (48 + m % 10) (by omega) b1 hb1
      have B1 := Lib.hid (hb1 ▸ decTop_step m h)
      clear hb1
      rw [show ((48 + m % 10 : Nat) : Int) = 48 + (m : Int) % 10 from by omega] at hc1
      go_wp2
      go_roundw
      case rel => exact ⟨m / 10, b1 :: l, by simp, congrArg Value.string (bapp [b1] l), by omega, by rw [← HS.out, B1.out, List.append_assoc]; rfl, belowA hbl _⟩
      case measure => simp [intOf]; omega
    · have hm0 : m = 0 := by omega
      subst hm0
      have e : l = Lib.decDigits n := by have := HS.out; simpa [decTop] using this
      have E := Lib.hid e
      clear e
      go_wp2
      go_ret
      exact ⟨ret_str (congrArg (fun l : List UInt8 => (⟨l.toArray⟩ : ByteArray)) E.out), hbl⟩
end Go.Proofs.YtaicfgimaeojbaaDoor
