/-
  gavottelaw08's text over this seat's translation: a word's text. Conditions: those that each theorem states.
-/
import Derived.Test.YtikpbfghdiomgaaDoorT8H
import Derived.Lib.ItoaNum
import Derived.Laws.IdiomStrings
namespace Go.Proofs.YtikpbfghdiomgaaDoor
open Go.RowKit Go.Lib Tk
attribute [local go_sem] Oper.semAt_some

theorem dec_lib (n : Nat) : dec n = Lib.decDigits n := by
  induction n using Nat.strongRecOn with
  | _ n ih =>
    by_cases h : n < 10
    · rw [dec_small h, Lib.decDigits, dif_pos h]
      unfold digit
      rw [Nat.mod_eq_of_lt h]
    · rw [dec_more (by omega), Lib.decDigits, dif_neg h, ih (n / 10) (by omega)]
      rfl
def decTop (n : Nat) : List UInt8 := if n = 0 then [] else Lib.decDigits n
theorem decTop_step (n : Nat) (h : 0 < n) : decTop n = decTop (n / 10) ++ [UInt8.ofNat (48 + n % 10)] := by
  unfold decTop
  rw [if_neg (by omega)]
  by_cases h2 : n < 10
  · rw [Lib.decDigits, dif_pos h2, if_pos (by omega), Nat.mod_eq_of_lt h2]
    rfl
  · rw [Lib.decDigits, dif_neg h2, if_neg (by omega)]
theorem dec_first (n : Nat) : Lib.decDigits n = decTop (n / 10) ++ [UInt8.ofNat (48 + n % 10)] := by
  unfold decTop
  by_cases h2 : n < 10
  · rw [Lib.decDigits, dif_pos h2, if_pos (by omega), Nat.mod_eq_of_lt h2]
    rfl
  · rw [Lib.decDigits, dif_neg h2, if_neg (by omega)]
theorem cell8_new (w : World) (o : Value) (t : TypeId) : (w.alloc (.cells #[o] t)).cell? ⟨w.heap.size, 0, none⟩ = some o := by
  have := World.ownsRow_lit (base := 0) (e := t) (size := 1) w #[o] 1 (by omega) (by unfold maxLen; omega) rfl
  exact this.cells (g := w.heap.size) (by simp [Value.ownBlock]) 0 _ rfl
theorem conv_one (w : World) (g : Nat) (hg : w.heap.size = g) (x : Nat) (hx : x < 256) (b : UInt8) (hb : UInt8.ofNat x = b) :
    (convert 42 9 (.slice (some ⟨g, 0, none⟩) 1 1)).run Tryd.prog (w.alloc (.cells #[.int .u8 (x : Int)] 5)) = .ok (.string ⟨#[b]⟩) (w.alloc (.cells #[.int .u8 (x : Int)] 5)) := by
  subst hb hg
  refine run_convert_bytes_back _ 42 9 5 ⟨w.heap.size, 0, none⟩ 1 [UInt8.ofNat x] Tryd.underlying42 Tryd.underlying5 Tryd.underlying9 ?_
  intro j hj
  simp at hj
  subst hj
  rw [show ([UInt8.ofNat x][0]).toNat = x from by simp; omega]
  exact cell8_new _ _ _
theorem bapp (a l : List UInt8) : (⟨a.toArray⟩ : ByteArray) ++ (⟨l.toArray⟩ : ByteArray) = ⟨(a ++ l).toArray⟩ := by
  apply ByteArray.ext
  simp [ByteArray.data_append]
theorem nd_le : ∀ (k u : Nat), 1 ≤ k → u < 10 ^ k → Lib.nDigits u ≤ k
  | 0, _, h, _ => by omega
  | k + 1, u, _, h => by
    by_cases h2 : u < 10
    · rw [Lib.nDigits_small h2]; omega
    · rw [Lib.nDigits_big h2]
      rw [Nat.pow_succ] at h
      have hk : 1 ≤ k := by
        rcases Nat.eq_zero_or_pos k with rfl | hk
        · omega
        · exact hk
      have := nd_le k (u / 10) hk (by omega)
      omega
theorem dec_len (n : Nat) (h : (n : Int) ≤ 9223372036854775807) : (Lib.decDigits n).length ≤ 19 := by
  rw [Lib.decDigits_length]
  exact nd_le 19 n (by omega) (by omega)
def DecRel (w : World) (n0 : Nat) (vs vn : Value) (wr : World) : Prop :=
  ∃ (n : Nat) (l : List UInt8), vn = .int .i64 n ∧ vs = .string ⟨l.toArray⟩ ∧ n ≤ n0 ∧ decTop n ++ l = Lib.decDigits n0 ∧ Below w.heap.size w wr
theorem rstr8 {a b : ByteArray} (h : a = b) : Ending.returned (.string a) = .returned (.string b) := by rw [h]

set_option maxHeartbeats 8000000 in
set_option maxRecDepth 100000 in
theorem text8_c (u : Tk.W) (hn : u.n ≤ 9223372036854775807) (hu : u.s.length ≤ 100000) (w : World) :
    Calls Tryd.prog 9 #[.agg #[.int .i64 (u.kind : Int), .string ⟨u.s.toArray⟩, .int .i64 (u.n : Int), .int .i64 (u.p : Int)]] w fun e w' => e = .returned (.string ⟨(txt u).toArray⟩) ∧ Below w.heap.size w w' := by
  have HB := Lib.hid (bA8 (Below.refl w.heap.size w) (Nat.le_refl _) (.cells #[.int .i64 (u.kind : Int), .string ⟨u.s.toArray⟩, .int .i64 (u.n : Int), .int .i64 (u.p : Int)] 28))
  have hsz : (⟨u.s.toArray⟩ : ByteArray).size = u.s.length := by simp [ByteArray.size]
  obtain ⟨us, hus⟩ : ∃ z : ByteArray, (⟨u.s.toArray⟩ : ByteArray) = z := ⟨_, rfl⟩
  have HS := Lib.hid hus
  obtain ⟨x, hx⟩ : ∃ x : Int, (u.kind : Int) = x := ⟨_, rfl⟩
  have HX := Lib.hid hx
  rw [hus] at hsz
  rw [hus, hx] at HB ⊢
  clear hus
  by_cases h1 : u.kind = 1
  · have e1 : (x == 1) = true := by rw [beq_iff_eq]; omega
    obtain ⟨n, hm⟩ : ∃ m, u.n = m := ⟨_, rfl⟩
    have hT := Lib.hid (show txt u = Lib.decDigits n from by unfold txt; rw [if_pos h1, hm, dec_lib])
    rw [hm] at hn HB ⊢
    have hni : (n : Int) ≤ 9223372036854775807 := by omega
    obtain ⟨b0, hb0⟩ : ∃ b, UInt8.ofNat (48 + n % 10) = b := ⟨_, rfl⟩
    have hc0 := conv_one (w.alloc (.cells #[.int .i64 x, .string us, .int .i64 (n : Int), .int .i64 (u.p : Int)] 28)) (w.heap.size + 1) (by simp) (48 + n % 10) (by omega) b0 hb0
    have B0 := Lib.hid (hb0 ▸ dec_first n)
    rw [show ((48 + n % 10 : Nat) : Int) = 48 + (n : Int) % 10 from by omega] at hc0
    have HB2 := Lib.hid (bA8 HB.out (by simp) (.cells #[.int .u8 (48 + (n : Int) % 10)] 5))
    clear hx h1 hm hb0 hsz
    go_enter Tryd.func9, Tryd.ntmps9
    go_wp2
    go_loopw [3, 4] (fun vs vn wr => DecRel w n vs vn wr) (fun _ vn _ => (intOf vn).toNat)
    case atStart => exact ⟨n / 10, [b0], by simp, rfl, by omega, B0.out.symm, HB2.out⟩
    case round =>
      obtain ⟨m, l, rfl, rfl, hm, hs, hbl⟩ := hrel
      have HS := Lib.hid hs
      have HBL := Lib.hid hbl
      clear hs hc0
      have hll : l.length ≤ 19 := by
        have h2 := dec_len n hni
        rw [← HS.out, List.length_append] at h2
        omega
      by_cases h : 0 < m
      · have hmi : (0 : Int) < (m : Int) := by omega
        obtain ⟨b1, hb1⟩ : ∃ b, UInt8.ofNat (48 + m % 10) = b := ⟨_, rfl⟩
        have hc1 := conv_one wr wr.heap.size rfl (48 + m % 10) (by omega) b1 hb1
        have B1 := Lib.hid (hb1 ▸ decTop_step m h)
        clear hb1 hbl
        rw [show ((48 + m % 10 : Nat) : Int) = 48 + (m : Int) % 10 from by omega] at hc1
        go_wp2
        go_roundw
        case rel => exact ⟨m / 10, b1 :: l, by simp, congrArg Value.string (bapp [b1] l), by omega, by rw [← HS.out, B1.out, List.append_assoc]; rfl, bA8 HBL.out HBL.out.size _⟩
        case measure => simp [intOf]; omega
      · have hm0 : m = 0 := by omega
        subst hm0
        have E := Lib.hid (show l = Lib.decDigits n from by have := HS.out; simpa [decTop] using this)
        clear hbl
        go_wp2
        exact bodyPost_ret (v := .string ⟨l.toArray⟩) (by simp [results, Tryd.results9, go_sem]) rfl ⟨by rw [hT.out, E.out], HBL.out⟩
  · have e1 : (x == 1) = false := beq_eq_false_iff_ne.2 (by omega)
    by_cases h2 : u.kind = 2
    · have e2 : (x == 2) = true := by rw [beq_iff_eq]; omega
      have hT := Lib.hid (show txt u = 39 :: u.s from by unfold txt; rw [if_neg h1, if_pos h2])
      have hus2 : us.size ≤ 100000 := by omega
      have HA := Lib.hid (show (⟨#[39]⟩ : ByteArray) ++ us = ⟨(39 :: u.s).toArray⟩ from by rw [← HS.out]; exact bapp [39] u.s)
      clear hx h1 h2 hsz
      go_enter Tryd.func9, Tryd.ntmps9
      go_wp2
      exact bodyPost_ret (v := .string (⟨#[39]⟩ ++ us)) (by simp [results, Tryd.results9, go_sem]) rfl ⟨by rw [hT.out, HA.out], HB.out⟩
    · have e2 : (x == 2) = false := beq_eq_false_iff_ne.2 (by omega)
      have hT := Lib.hid (show txt u = u.s from by unfold txt; rw [if_neg h1, if_neg h2])
      clear hx h1 h2 hsz
      go_enter Tryd.func9, Tryd.ntmps9
      go_wp2
      exact bodyPost_ret (v := .string us) (by simp [results, Tryd.results9, go_sem]) rfl ⟨by rw [hT.out, HS.out], HB.out⟩
end Go.Proofs.YtikpbfghdiomgaaDoor
