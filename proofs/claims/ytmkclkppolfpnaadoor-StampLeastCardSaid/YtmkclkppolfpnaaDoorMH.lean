/-
  Several texts in one: TextA TextB TextC TextD TextE StText.
-/
import Derived.Test.YtmkclkppolfpnaaDoorME
import Derived.Test.YtmkclkppolfpnaaDoorMA
import Derived.Lib.ItoaNum
import Derived.Laws.IdiomStrings
import Derived.Test.YtmkclkppolfpnaaDoorShelfA
import Derived.Lib.AtoiAllCases
import Derived.Lib.IndexMore
import Derived.Test.YtmkclkppolfpnaaDoorMG

/-
  The contract of the given package gavotteref01's Dec over this seat's translation: an int from nought on, in decimal. Conditions: those that each theorem states.
-/
namespace Go.Proofs.YtmkclkppolfpnaaDoor
open Go.RowKit
attribute [local go_sem ↓] Go.wp_at_zero Go.wp_at_succ

def decTop (n : Nat) : List UInt8 := if n = 0 then [] else Lib.decDigits n
theorem decTop_step (n : Nat) (h : 0 < n) : decTop n = decTop (n / 10) ++ [UInt8.ofNat (48 + n % 10)] := by
  unfold decTop
  rw [if_neg (by omega)]
  by_cases h2 : n < 10
  · rw [Lib.decDigits, dif_pos h2, if_pos (by omega), Nat.mod_eq_of_lt h2]
    rfl
  · rw [Lib.decDigits, dif_neg h2, if_neg (by omega)]
theorem dec_first (n : Nat) : Lib.decDigits n = decTop (n / 10) ++ [UInt8.ofNat (48 + n % 10)] := by
  unfold decTop
  by_cases h2 : n < 10
  · rw [Lib.decDigits, dif_pos h2, if_pos (by omega), Nat.mod_eq_of_lt h2]
    rfl
  · rw [Lib.decDigits, dif_neg h2, if_neg (by omega)]

theorem conv_one (w : World) (x : Nat) (hx : x < 256) (b : UInt8) (hb : UInt8.ofNat x = b) :
    (convert 81 9 (.slice (some ⟨w.heap.size, 0, none⟩) 1 1)).run Tryd.prog (w.alloc (.cells #[.int .u8 (x : Int)] 5)) = .ok (.string ⟨#[b]⟩) (w.alloc (.cells #[.int .u8 (x : Int)] 5)) := by
  subst hb
  refine run_convert_bytes_back _ 81 9 5 ⟨w.heap.size, 0, none⟩ 1 [UInt8.ofNat x] Tryd.underlying81 Tryd.underlying5 Tryd.underlying9 ?_
  intro j hj
  simp at hj
  subst hj
  rw [show ([UInt8.ofNat x][0]).toNat = x from by simp; omega]
  exact cell_one_new _ _ _ 0 _ rfl

theorem bapp (a l : List UInt8) : (⟨a.toArray⟩ : ByteArray) ++ (⟨l.toArray⟩ : ByteArray) = ⟨(a ++ l).toArray⟩ := by
  apply ByteArray.ext
  rw [ByteArray.data_append]
  simp
theorem nd_le : ∀ (k u : Nat), 1 ≤ k → u < 10 ^ k → Lib.nDigits u ≤ k
  | 0, _, h, _ => by omega
  | k + 1, u, _, h => by
    by_cases h2 : u < 10
    · rw [Lib.nDigits_small h2]; omega
    · rw [Lib.nDigits_big h2]
      rw [Nat.pow_succ] at h
      have hk : 1 ≤ k := by
        rcases Nat.eq_zero_or_pos k with rfl | hk
        · omega
        · exact hk
      have := nd_le k (u / 10) hk (by omega)
      omega
theorem dec_len (n : Nat) (h : (n : Int) ≤ 9223372036854775807) : (Lib.decDigits n).length ≤ 19 := by
  rw [Lib.decDigits_length]
  exact nd_le 19 n (by omega) (by omega)

def DecRel (w : World) (n0 : Nat) (vn vs : Value) (wr : World) : Prop :=
  ∃ (n : Nat) (l : List UInt8), vn = .int .i64 n ∧ vs = .string ⟨l.toArray⟩ ∧ n ≤ n0 ∧ decTop n ++ l = Lib.decDigits n0 ∧ Below w.heap.size w wr

set_option maxHeartbeats 2000000 in
set_option maxRecDepth 100000 in
theorem dec_c (n : Nat) (h1 : (n : Int) ≤ 9223372036854775807) (w : World) :
    Calls Tryd.prog 37 #[.int .i64 n] w fun e w' => e = .returned (.string ⟨(Lib.decDigits n).toArray⟩) ∧ Below w.heap.size w w' := by
  go_enter Tryd.func37, Tryd.ntmps37
  obtain ⟨b0, hb0⟩ : ∃ b, UInt8.ofNat (48 + n % 10) = b := ⟨_, rfl⟩
  have hc0 := conv_one w (48 + n % 10) (by omega) b0 hb0
  have B0 := Lib.hid (hb0 ▸ dec_first n)
  clear hb0
  rw [show ((48 + n % 10 : Nat) : Int) = 48 + (n : Int) % 10 from by omega] at hc0
  go_wp2
  go_loopw [0, 3] (fun vn vs wr => DecRel w n vn vs wr) (fun vn _ _ => (intOf vn).toNat)
  case atStart => exact ⟨n / 10, [b0], by simp, rfl, by omega, B0.out.symm, belowA (Below.refl _ _) _⟩
  case round =>
    obtain ⟨m, l, rfl, rfl, hm, hs, hbl⟩ := hrel
    have HS := Lib.hid hs
    clear hs hc0
    have hll : l.length ≤ 19 := by
      have h2 := dec_len n h1
      rw [← HS.out, List.length_append] at h2
      omega
    by_cases h : 0 < m
    · have hmi : (0 : Int) < (m : Int) := by omega
      obtain ⟨b1, hb1⟩ : ∃ b, UInt8.ofNat (48 + m % 10) = b := ⟨_, rfl⟩
      have hc1 := conv_one wr (48 + m % 10) (by omega) b1 hb1
      have B1 := Lib.hid (hb1 ▸ decTop_step m h)
      clear hb1
      rw [show ((48 + m % 10 : Nat) : Int) = 48 + (m : Int) % 10 from by omega] at hc1
      go_wp2
      go_roundw
      case rel => exact ⟨m / 10, b1 :: l, by simp, congrArg Value.string (bapp [b1] l), by omega, by rw [← HS.out, B1.out, List.append_assoc]; rfl, belowA hbl _⟩
      case measure => simp [intOf]; omega
    · have hm0 : m = 0 := by omega
      subst hm0
      have e : l = Lib.decDigits n := by have := HS.out; simpa [decTop] using this
      have E := Lib.hid e
      clear e
      go_wp2
      go_ret
      exact ⟨ret_str (congrArg (fun l : List UInt8 => (⟨l.toArray⟩ : ByteArray)) E.out), hbl⟩
end Go.Proofs.YtmkclkppolfpnaaDoor

/-
  What the library's functions on texts want of a world, and strconv.Itoa over this seat's translation; the text of a time as a list of bytes. Conditions: those that each theorem states.
-/
namespace Go.Proofs.YtmkclkppolfpnaaDoor
open Go.RowKit

/-- What the library's functions on texts read of the variables that the program lays. -/
structure Env (w : World) : Prop where
  tab : Lib.TabIs Tryd.prog w "internal/strconv.uint64pow10" .u64 Lib.pow10Tab
theorem Env.keep {w w' : World} (h : Env w) (hb : Below w.heap.size w w') : Env w' := by
  obtain ⟨t⟩ := h
  refine ⟨?_⟩
  unfold Lib.TabIs World.var? at *
  cases hg : Tryd.prog.globalNamed "internal/strconv.uint64pow10" with
  | none => rw [hg] at t; simp at t
  | some g =>
    rw [hg] at t
    simp only [Option.bind_some] at t ⊢
    cases hh : w.heap[g]? with
    | none => rw [hh] at t; simp at t
    | some o =>
      have hlt : g < w.heap.size := (Array.getElem?_eq_some_iff.1 hh).1
      rw [hb.block g hlt]
      exact t

theorem below_grow (w : World) (k : Nat) (os : Array Obj) : Below w.heap.size w (Go.Sort.grow (w.drewN k) os) := by
  refine ⟨rfl, rfl, rfl, ?_, fun i hi => ?_⟩
  · show w.heap.size ≤ (w.heap ++ os).size
    simp
  · show (w.heap ++ os)[i]? = w.heap[i]?
    rw [Array.getElem?_append_left hi]

theorem itoa_c (n : Int) (h0 : 0 ≤ n) (h1 : n ≤ 9223372036854775807) (w : World) (h : Env w) :
    Calls Tryd.prog 35 #[.int .i64 n] w fun e w' => e = .returned (.string ⟨(Lib.decDigits n.toNat).toArray⟩) ∧ Below w.heap.size w w' := by
  refine (Tryd.strconv_Itoa n (by omega) h1 w h.tab).mono ?_
  rintro e w' ⟨rfl, k, os, rfl⟩
  refine ⟨?_, below_grow w k os⟩
  unfold Lib.itoa
  rw [if_neg (by omega)]

/-- The text of a right time. -/
def textL (n d : Int) : List UInt8 :=
  if isNever n d then [110, 101, 118, 101, 114] else if d = 1 then Lib.decDigits n.toNat else Lib.decDigits n.toNat ++ (47 :: Lib.decDigits d.toNat)
end Go.Proofs.YtmkclkppolfpnaaDoor

/-
  The contracts of the given package gavotteref01's Text over this seat's translation: the text of a time. Conditions: those that each theorem states.
-/
namespace Go.Proofs.YtmkclkppolfpnaaDoor
open Go.RowKit
attribute [local go_sem ↓] Go.wp_at_zero Go.wp_at_succ

set_option maxHeartbeats 400000 in
set_option maxRecDepth 100000 in
theorem rtext_never (n d : Int) 
    (k0 : ∀ w : World, Calls Tryd.prog 32 #[.agg #[.int .i64 n, .int .i64 d]] w fun e w' => e = .returned (.bool true) ∧ Below w.heap.size w w') (w : World) :
    Calls Tryd.prog 36 #[.agg #[.int .i64 n, .int .i64 d]] w fun e w' => e = .returned (.string ⟨#[110, 101, 118, 101, 114]⟩) ∧ Below w.heap.size w w' := by
  have K0 := Lib.hid k0
  clear k0
  go_enter Tryd.func36, Tryd.ntmps36
  go_wp2_with fail
  refine (K0.out _).mono ?_
  rintro e w1 ⟨rfl, hb⟩
  have FA : At2 w.heap.size n d w1 := At2.keep ⟨by go_simp, by go_simp⟩ hb
  have WB := belowT (belowA (Below.refl _ w) _) hb
  clear hb
  have FA2 := FA
  obtain ⟨c0, c1⟩ := FA2
  go_wp2
  go_ret
  exact ⟨rfl, WB⟩

set_option maxHeartbeats 400000 in
set_option maxRecDepth 100000 in
theorem rtext_one (n : Int) (n0 : 0 ≤ n) (n1 : n ≤ 9223372036854775807)
    (k0 : ∀ w : World, Calls Tryd.prog 32 #[.agg #[.int .i64 n, .int .i64 1]] w fun e w' => e = .returned (.bool false) ∧ Below w.heap.size w w')
    (k1 : ∀ w : World, Calls Tryd.prog 31 #[.agg #[.int .i64 n, .int .i64 1]] w fun e w' => e = .returned (.bool true) ∧ Below w.heap.size w w') (w : World) :
    Calls Tryd.prog 36 #[.agg #[.int .i64 n, .int .i64 1]] w fun e w' => e = .returned (.string ⟨(Lib.decDigits n.toNat).toArray⟩) ∧ Below w.heap.size w w' := by
  have K0 := Lib.hid k0
  clear k0
  have K1 := Lib.hid k1
  clear k1
  have hl := dec_len n.toNat (by omega)
  have KD := Lib.hid (dec_c n.toNat (by omega))
  rw [Int.toNat_of_nonneg n0] at KD
  generalize Lib.decDigits n.toNat = L at *
  go_enter Tryd.func36, Tryd.ntmps36
  go_wp2_with fail
  refine (K0.out _).mono ?_
  rintro e w1 ⟨rfl, hb⟩
  have FA : At2 w.heap.size n 1 w1 := At2.keep ⟨by go_simp, by go_simp⟩ hb
  have WB := belowT (belowA (Below.refl _ w) _) hb
  clear hb
  have FA2 := FA
  obtain ⟨c0, c1⟩ := FA2
  go_wp2_with fail
  refine (K1.out _).mono ?_
  rintro e w2 ⟨rfl, hb⟩
  replace FA := FA.keep hb
  replace WB := belowT WB hb
  clear hb c0 c1
  have FA2 := FA
  obtain ⟨c0, c1⟩ := FA2
  go_wp2_with fail
  refine (KD.out _).mono ?_
  rintro e w3 ⟨rfl, hb⟩
  go_wp2
  go_ret
  exact ⟨rfl, belowT WB hb⟩

set_option maxHeartbeats 400000 in
set_option maxRecDepth 100000 in
theorem rtext_two (n d : Int) (n0 : 0 ≤ n) (n1 : n ≤ 9223372036854775807) (d0 : 0 ≤ d) (d1 : d ≤ 9223372036854775807) (hd : ¬ d = 1)
    (k0 : ∀ w : World, Calls Tryd.prog 32 #[.agg #[.int .i64 n, .int .i64 d]] w fun e w' => e = .returned (.bool false) ∧ Below w.heap.size w w')
    (k1 : ∀ w : World, Calls Tryd.prog 31 #[.agg #[.int .i64 n, .int .i64 d]] w fun e w' => e = .returned (.bool true) ∧ Below w.heap.size w w') (w : World) :
    Calls Tryd.prog 36 #[.agg #[.int .i64 n, .int .i64 d]] w fun e w' => e = .returned (.string ⟨(Lib.decDigits n.toNat ++ (47 :: Lib.decDigits d.toNat)).toArray⟩) ∧ Below w.heap.size w w' := by
  have K0 := Lib.hid k0
  clear k0
  have K1 := Lib.hid k1
  clear k1
  have hl := dec_len n.toNat (by omega)
  have hl2 := dec_len d.toNat (by omega)
  have KD := Lib.hid (dec_c n.toNat (by omega))
  have KE := Lib.hid (dec_c d.toNat (by omega))
  rw [Int.toNat_of_nonneg n0] at KD
  rw [Int.toNat_of_nonneg d0] at KE
  have hdz : (d == 1) = false := by simpa using hd
  generalize Lib.decDigits n.toNat = L at *
  generalize Lib.decDigits d.toNat = M at *
  have hl3 : ¬ 9223372036854775807 < L.length + 1 := by omega
  have hl4 : ¬ 9223372036854775807 < L.length + 1 + M.length := by omega
  go_enter Tryd.func36, Tryd.ntmps36
  go_wp2_with fail
  refine (K0.out _).mono ?_
  rintro e w1 ⟨rfl, hb⟩
  have FA : At2 w.heap.size n d w1 := At2.keep ⟨by go_simp, by go_simp⟩ hb
  have WB := belowT (belowA (Below.refl _ w) _) hb
  clear hb
  have FA2 := FA
  obtain ⟨c0, c1⟩ := FA2
  go_wp2_with fail
  refine (K1.out _).mono ?_
  rintro e w2 ⟨rfl, hb⟩
  replace FA := FA.keep hb
  replace WB := belowT WB hb
  clear hb c0 c1
  have FA2 := FA
  obtain ⟨c0, c1⟩ := FA2
  go_wp2_with fail
  go_region_held3 (fun w' => w'.cell? ⟨w.heap.size, 0, none⟩ = some (.int .i64 n) ∧ w'.cell? ⟨w.heap.size, 1, none⟩ = some (.int .i64 d) ∧ Below w.heap.size w w')
    (first | exact ⟨c0, c1, Below.drew WB⟩ | (go_split_ands; exact ⟨keepc hb (by assumption), keepc hb (by assumption), belowT (by assumption) hb⟩) | go_keep)
    (first
      | (go_at_call_of 37 (Value.int .i64 n); refine (KD.out _).mono ?_; rintro e w6 ⟨rfl, hb⟩)
      | (go_at_call_of 37 (Value.int .i64 d); refine (KE.out _).mono ?_; rintro e w6 ⟨rfl, hb⟩))
  all_goals go_wp2
  all_goals go_ret
  all_goals exact ⟨ret_str (by rw [show (⟨#[47]⟩ : ByteArray) = ⟨([47] : List UInt8).toArray⟩ from rfl, bapp, bapp]; simp), (by repeat (first | with_reducible assumption | with_reducible exact Below.refl _ _ | with_reducible refine belowN ?_ _ | with_reducible refine Below.drew ?_ | with_reducible refine belowA ?_ _ | with_reducible refine belowT ?_ (by assumption)))⟩

end Go.Proofs.YtmkclkppolfpnaaDoor

/-
  The contract of span.Text over this seat's translation, whole, and of the given package's Text. Conditions: the numbers are ints; the world bears what the library's functions on texts read.
-/
namespace Go.Proofs.YtmkclkppolfpnaaDoor
open Go.RowKit
attribute [local go_sem ↓] Go.wp_at_zero Go.wp_at_succ

abbrev bs (l : List UInt8) : ByteArray := ⟨l.toArray⟩
def textS (n d : Int) : ByteArray := if rightB n d = true then bs (textL n d) else ⟨#[]⟩
theorem textS_wrong {n d : Int} (h : ¬ rightB n d = true) : textS n d = ⟨#[]⟩ := by unfold textS; rw [if_neg h]
theorem textS_never : textS 1 0 = ⟨#[110, 101, 118, 101, 114]⟩ := by unfold textS; rw [if_pos right_never]; rfl
theorem textS_one {n : Int} (h : rightB n 1 = true) : textS n 1 = bs (Lib.decDigits n.toNat) := by
  unfold textS textL
  rw [if_pos h, if_neg (by unfold isNever; omega), if_pos rfl]
theorem textS_two {n d : Int} (h : rightB n d = true) (hn : ¬ isNever n d) (hd : ¬ d = 1) : textS n d = bs (Lib.decDigits n.toNat ++ (47 :: Lib.decDigits d.toNat)) := by
  unfold textS textL
  rw [if_pos h, if_neg hn, if_neg hd]

set_option maxHeartbeats 400000 in
set_option maxRecDepth 100000 in
theorem text_wrong (n d : Int)
    (k0 : ∀ w : World, Calls Tryd.prog 29 #[.agg #[.int .i64 n, .int .i64 d]] w fun e w' => e = .returned (.bool false) ∧ Below w.heap.size w w') (w : World) :
    Calls Tryd.prog 34 #[.agg #[.int .i64 n, .int .i64 d]] w fun e w' => e = .returned (.string ⟨#[]⟩) ∧ Below w.heap.size w w' := by
  have K0 := Lib.hid k0
  clear k0
  go_enter Tryd.func34, Tryd.ntmps34
  go_wp2_with fail
  refine (K0.out _).mono ?_
  rintro e w1 ⟨rfl, hb⟩
  have WB := belowT (belowA (Below.refl _ w) _) hb
  clear hb
  go_wp2
  go_ret
  exact ⟨rfl, WB⟩

set_option maxHeartbeats 1000000 in
set_option maxRecDepth 100000 in
theorem text_never 
    (k0 : ∀ w : World, Calls Tryd.prog 29 #[.agg #[.int .i64 1, .int .i64 0]] w fun e w' => e = .returned (.bool true) ∧ Below w.heap.size w w') (w : World) (he : Env w) :
    Calls Tryd.prog 34 #[.agg #[.int .i64 1, .int .i64 0]] w fun e w' => e = .returned (.string ⟨#[110, 101, 118, 101, 114]⟩) ∧ Below w.heap.size w w' := by
  have K0 := Lib.hid k0
  clear k0
  go_enter Tryd.func34, Tryd.ntmps34
  go_wp2_with fail
  refine (K0.out _).mono ?_
  rintro e w1 ⟨rfl, hb⟩
  have FA : At2 w.heap.size 1 0 w1 := At2.keep ⟨by go_simp, by go_simp⟩ hb
  have WB := belowT (belowA (Below.refl _ w) _) hb
  clear hb
  have HE := he.keep WB
  have FA2 := FA
  obtain ⟨c0, c1⟩ := FA2
  go_wp2_with fail
  go_region_held3 (fun w' => w'.cell? ⟨w.heap.size, 0, none⟩ = some (.int .i64 1) ∧ w'.cell? ⟨w.heap.size, 1, none⟩ = some (.int .i64 0) ∧ Env w' ∧ Below w.heap.size w w')
    (first | exact ⟨c0, c1, HE.keep (Below.drew (Below.refl _ _)), Below.drew WB⟩ | (go_split_ands; exact ⟨keepc hb (by assumption), keepc hb (by assumption), Env.keep (by assumption) hb, belowT (by assumption) hb⟩) | go_keep)
    (first | (go_at_call 27; refine (never_c _).mono ?_; rintro e w5 ⟨rfl, hb⟩))
  all_goals go_split_ands
  all_goals clear c0 c1 HE WB
  all_goals (have WB : Below w.heap.size w w5 := by assumption)
  all_goals (have HE : Env w5 := by assumption)
  all_goals go_wp2
  all_goals go_ret
  all_goals exact ⟨rfl, WB⟩

set_option maxHeartbeats 1000000 in
set_option maxRecDepth 100000 in
theorem text_one (n : Int) (n0 : 0 ≤ n) (n1 : n ≤ 9223372036854775807) (hz : (n == 1) = false)
    (k0 : ∀ w : World, Calls Tryd.prog 29 #[.agg #[.int .i64 n, .int .i64 1]] w fun e w' => e = .returned (.bool true) ∧ Below w.heap.size w w') (w : World) (he : Env w) :
    Calls Tryd.prog 34 #[.agg #[.int .i64 n, .int .i64 1]] w fun e w' => e = .returned (.string ⟨(Lib.decDigits n.toNat).toArray⟩) ∧ Below w.heap.size w w' := by
  have K0 := Lib.hid k0
  clear k0
  have hl := dec_len n.toNat (by omega)
  have KD := Lib.hid (itoa_c n n0 n1)
  generalize Lib.decDigits n.toNat = L at *
  go_enter Tryd.func34, Tryd.ntmps34
  go_wp2_with fail
  refine (K0.out _).mono ?_
  rintro e w1 ⟨rfl, hb⟩
  have FA : At2 w.heap.size n 1 w1 := At2.keep ⟨by go_simp, by go_simp⟩ hb
  have WB := belowT (belowA (Below.refl _ w) _) hb
  clear hb
  have HE := he.keep WB
  have FA2 := FA
  obtain ⟨c0, c1⟩ := FA2
  go_wp2_with fail
  go_region_held3 (fun w' => w'.cell? ⟨w.heap.size, 0, none⟩ = some (.int .i64 n) ∧ w'.cell? ⟨w.heap.size, 1, none⟩ = some (.int .i64 1) ∧ Env w' ∧ Below w.heap.size w w')
    (first | exact ⟨c0, c1, HE.keep (Below.drew (Below.refl _ _)), Below.drew WB⟩ | (go_split_ands; exact ⟨keepc hb (by assumption), keepc hb (by assumption), Env.keep (by assumption) hb, belowT (by assumption) hb⟩) | go_keep)
    (first | (go_at_call 27; refine (never_c _).mono ?_; rintro e w5 ⟨rfl, hb⟩))
  all_goals go_split_ands
  all_goals clear c0 c1 HE WB
  all_goals (have WB : Below w.heap.size w w5 := by assumption)
  all_goals (have HE : Env w5 := by assumption)
  all_goals go_wp2_with fail
  all_goals (go_at_call_of 35 (Value.int .i64 n); refine (KD.out _ ?_).mono ?_)
  all_goals first | exact HE | skip
  all_goals rintro e w6 ⟨rfl, hb⟩
  all_goals go_wp2
  all_goals go_ret
  all_goals exact ⟨rfl, belowT WB hb⟩

set_option maxHeartbeats 1000000 in
set_option maxRecDepth 100000 in
theorem text_one1 
    (k0 : ∀ w : World, Calls Tryd.prog 29 #[.agg #[.int .i64 1, .int .i64 1]] w fun e w' => e = .returned (.bool true) ∧ Below w.heap.size w w') (w : World) (he : Env w) :
    Calls Tryd.prog 34 #[.agg #[.int .i64 1, .int .i64 1]] w fun e w' => e = .returned (.string ⟨(Lib.decDigits 1).toArray⟩) ∧ Below w.heap.size w w' := by
  have K0 := Lib.hid k0
  clear k0
  have KD := Lib.hid (itoa_c 1 (by omega) (by omega))
  rw [show (1 : Int).toNat = 1 from rfl] at KD
  generalize Lib.decDigits 1 = L at *
  go_enter Tryd.func34, Tryd.ntmps34
  go_wp2_with fail
  refine (K0.out _).mono ?_
  rintro e w1 ⟨rfl, hb⟩
  have FA : At2 w.heap.size 1 1 w1 := At2.keep ⟨by go_simp, by go_simp⟩ hb
  have WB := belowT (belowA (Below.refl _ w) _) hb
  clear hb
  have HE := he.keep WB
  have FA2 := FA
  obtain ⟨c0, c1⟩ := FA2
  go_wp2_with fail
  go_region_held3 (fun w' => w'.cell? ⟨w.heap.size, 0, none⟩ = some (.int .i64 1) ∧ w'.cell? ⟨w.heap.size, 1, none⟩ = some (.int .i64 1) ∧ Env w' ∧ Below w.heap.size w w')
    (first | exact ⟨c0, c1, HE.keep (Below.drew (Below.refl _ _)), Below.drew WB⟩ | (go_split_ands; exact ⟨keepc hb (by assumption), keepc hb (by assumption), Env.keep (by assumption) hb, belowT (by assumption) hb⟩) | go_keep)
    (first | (go_at_call 27; refine (never_c _).mono ?_; rintro e w5 ⟨rfl, hb⟩))
  all_goals go_split_ands
  all_goals clear c0 c1 HE WB
  all_goals (have WB : Below w.heap.size w w5 := by assumption)
  all_goals (have HE : Env w5 := by assumption)
  all_goals go_wp2_with fail
  all_goals (go_at_call_of 35 (Value.int .i64 1); refine (KD.out _ ?_).mono ?_)
  all_goals first | exact HE | skip
  all_goals rintro e w6 ⟨rfl, hb⟩
  all_goals go_wp2
  all_goals go_ret
  all_goals exact ⟨rfl, belowT WB hb⟩

set_option maxHeartbeats 1000000 in
set_option maxRecDepth 100000 in
theorem text_two (n d : Int) (n0 : 0 ≤ n) (n1 : n ≤ 9223372036854775807) (d0 : 0 ≤ d) (d1 : d ≤ 9223372036854775807) (hd : ¬ d = 1) (hz : (n == 1) = false)
    (k0 : ∀ w : World, Calls Tryd.prog 29 #[.agg #[.int .i64 n, .int .i64 d]] w fun e w' => e = .returned (.bool true) ∧ Below w.heap.size w w') (w : World) (he : Env w) :
    Calls Tryd.prog 34 #[.agg #[.int .i64 n, .int .i64 d]] w fun e w' => e = .returned (.string ⟨(Lib.decDigits n.toNat ++ (47 :: Lib.decDigits d.toNat)).toArray⟩) ∧ Below w.heap.size w w' := by
  have K0 := Lib.hid k0
  clear k0
  have hl := dec_len (n : Int).toNat (by omega)
  have hl2 := dec_len d.toNat (by omega)
  have KD := Lib.hid (itoa_c n n0 n1)
  have KE := Lib.hid (itoa_c d d0 d1)
  have hdz : (d == 1) = false := by simpa using hd
  generalize hgL : Lib.decDigits (n : Int).toNat = L at *
  generalize hgM : Lib.decDigits d.toNat = M at *
  clear hgL hgM
  have hl3 : ¬ 9223372036854775807 < L.length + 1 := by omega
  have hl4 : ¬ 9223372036854775807 < L.length + 1 + M.length := by omega
  go_enter Tryd.func34, Tryd.ntmps34
  go_wp2_with fail
  refine (K0.out _).mono ?_
  rintro e w1 ⟨rfl, hb⟩
  have FA : At2 w.heap.size n d w1 := At2.keep ⟨by go_simp, by go_simp⟩ hb
  have WB := belowT (belowA (Below.refl _ w) _) hb
  clear hb
  have HE := he.keep WB
  have FA2 := FA
  obtain ⟨c0, c1⟩ := FA2
  go_wp2_with fail
  go_region_held3 (fun w' => w'.cell? ⟨w.heap.size, 0, none⟩ = some (.int .i64 n) ∧ w'.cell? ⟨w.heap.size, 1, none⟩ = some (.int .i64 d) ∧ Env w' ∧ Below w.heap.size w w')
    (first | exact ⟨c0, c1, HE.keep (Below.drew (Below.refl _ _)), Below.drew WB⟩ | (go_split_ands; exact ⟨keepc hb (by assumption), keepc hb (by assumption), Env.keep (by assumption) hb, belowT (by assumption) hb⟩) | go_keep)
    (first | (go_at_call 27; refine (never_c _).mono ?_; rintro e w5 ⟨rfl, hb⟩))
  all_goals go_split_ands
  all_goals clear c0 c1 HE WB
  all_goals (have WB : Below w.heap.size w w5 := by assumption)
  all_goals (have HE : Env w5 := by assumption)
  all_goals go_wp2_with fail
  go_region_held3 (fun w' => w'.cell? ⟨w.heap.size, 0, none⟩ = some (.int .i64 n) ∧ w'.cell? ⟨w.heap.size, 1, none⟩ = some (.int .i64 d) ∧ Env w' ∧ Below w.heap.size w w')
    (first | exact ⟨by assumption, by assumption, HE.keep (Below.drew (Below.refl _ _)), Below.drew WB⟩ | (go_split_ands; exact ⟨keepc hb (by assumption), keepc hb (by assumption), Env.keep (by assumption) hb, belowT (by assumption) hb⟩) | go_keep)
    (first
      | (go_at_call_of 35 (Value.int .i64 n); refine (KD.out _ (by first | assumption | (go_split_ands; assumption) | trace_state)).mono ?_; rintro e w6 ⟨rfl, hb⟩)
      | (go_at_call_of 35 (Value.int .i64 d); refine (KE.out _ (by first | assumption | (go_split_ands; assumption) | trace_state)).mono ?_; rintro e w6 ⟨rfl, hb⟩))
  all_goals go_wp2
  all_goals go_ret
  all_goals exact ⟨ret_str (by rw [show (⟨#[47]⟩ : ByteArray) = ⟨([47] : List UInt8).toArray⟩ from rfl, bapp, bapp]; simp), (by repeat (first | with_reducible assumption | with_reducible exact Below.refl _ _ | with_reducible refine belowN ?_ _ | with_reducible refine Below.drew ?_ | with_reducible refine belowA ?_ _ | with_reducible refine belowT ?_ (by assumption)))⟩

set_option maxHeartbeats 1000000 in
set_option maxRecDepth 100000 in
theorem text_two1 (d : Int) (d0 : 0 ≤ d) (d1 : d ≤ 9223372036854775807) (hd : ¬ d = 1) (hz : (d == 0) = false)
    (k0 : ∀ w : World, Calls Tryd.prog 29 #[.agg #[.int .i64 1, .int .i64 d]] w fun e w' => e = .returned (.bool true) ∧ Below w.heap.size w w') (w : World) (he : Env w) :
    Calls Tryd.prog 34 #[.agg #[.int .i64 1, .int .i64 d]] w fun e w' => e = .returned (.string ⟨(Lib.decDigits (1 : Int).toNat ++ (47 :: Lib.decDigits d.toNat)).toArray⟩) ∧ Below w.heap.size w w' := by
  have K0 := Lib.hid k0
  clear k0
  have hl := dec_len (1 : Int).toNat (by omega)
  have hl2 := dec_len d.toNat (by omega)
  have KD := Lib.hid (itoa_c 1 (by omega) (by omega))
  have KE := Lib.hid (itoa_c d d0 d1)
  have hdz : (d == 1) = false := by simpa using hd
  generalize hgL : Lib.decDigits (1 : Int).toNat = L at *
  generalize hgM : Lib.decDigits d.toNat = M at *
  clear hgL hgM
  have hl3 : ¬ 9223372036854775807 < L.length + 1 := by omega
  have hl4 : ¬ 9223372036854775807 < L.length + 1 + M.length := by omega
  go_enter Tryd.func34, Tryd.ntmps34
  go_wp2_with fail
  refine (K0.out _).mono ?_
  rintro e w1 ⟨rfl, hb⟩
  have FA : At2 w.heap.size 1 d w1 := At2.keep ⟨by go_simp, by go_simp⟩ hb
  have WB := belowT (belowA (Below.refl _ w) _) hb
  clear hb
  have HE := he.keep WB
  have FA2 := FA
  obtain ⟨c0, c1⟩ := FA2
  go_wp2_with fail
  go_region_held3 (fun w' => w'.cell? ⟨w.heap.size, 0, none⟩ = some (.int .i64 1) ∧ w'.cell? ⟨w.heap.size, 1, none⟩ = some (.int .i64 d) ∧ Env w' ∧ Below w.heap.size w w')
    (first | exact ⟨c0, c1, HE.keep (Below.drew (Below.refl _ _)), Below.drew WB⟩ | (go_split_ands; exact ⟨keepc hb (by assumption), keepc hb (by assumption), Env.keep (by assumption) hb, belowT (by assumption) hb⟩) | go_keep)
    (first | (go_at_call 27; refine (never_c _).mono ?_; rintro e w5 ⟨rfl, hb⟩))
  all_goals go_split_ands
  all_goals clear c0 c1 HE WB
  all_goals (have WB : Below w.heap.size w w5 := by assumption)
  all_goals (have HE : Env w5 := by assumption)
  all_goals go_wp2_with fail
  go_region_held3 (fun w' => w'.cell? ⟨w.heap.size, 0, none⟩ = some (.int .i64 1) ∧ w'.cell? ⟨w.heap.size, 1, none⟩ = some (.int .i64 d) ∧ Env w' ∧ Below w.heap.size w w')
    (first | exact ⟨by assumption, by assumption, HE.keep (Below.drew (Below.refl _ _)), Below.drew WB⟩ | (go_split_ands; exact ⟨keepc hb (by assumption), keepc hb (by assumption), Env.keep (by assumption) hb, belowT (by assumption) hb⟩) | go_keep)
    (first
      | (go_at_call_of 35 (Value.int .i64 1); refine (KD.out _ (by first | assumption | (go_split_ands; assumption) | trace_state)).mono ?_; rintro e w6 ⟨rfl, hb⟩)
      | (go_at_call_of 35 (Value.int .i64 d); refine (KE.out _ (by first | assumption | (go_split_ands; assumption) | trace_state)).mono ?_; rintro e w6 ⟨rfl, hb⟩))
  all_goals go_wp2
  all_goals go_ret
  all_goals exact ⟨ret_str (by rw [show (⟨#[47]⟩ : ByteArray) = ⟨([47] : List UInt8).toArray⟩ from rfl, bapp, bapp]; simp), (by repeat (first | with_reducible assumption | with_reducible exact Below.refl _ _ | with_reducible refine belowN ?_ _ | with_reducible refine Below.drew ?_ | with_reducible refine belowA ?_ _ | with_reducible refine belowT ?_ (by assumption)))⟩

theorem text_c (n d : Int) (hn : In64 n) (hd : In64 d) (w : World) (he : Env w) :
    Calls Tryd.prog 34 #[.agg #[.int .i64 n, .int .i64 d]] w fun e w' => e = .returned (.string (textS n d)) ∧ Below w.heap.size w w' := by
  have k0 := right_c n d hn hd
  by_cases hr : rightB n d = true
  · rw [hr] at k0
    by_cases hv : isNever n d
    · obtain ⟨rfl, rfl⟩ := hv
      rw [textS_never]
      exact text_never k0 w he
    · have hp := plain_of hr hv
      have hp1 := hp.1
      have hp2 := hp.2.1
      by_cases h1 : d = 1
      · subst h1
        rw [textS_one hr]
        rcases never_or hv with h | ⟨rfl, h⟩
        · exact text_one n hp2 hn.2 h k0 w he
        · exact text_one1 k0 w he
      · rw [textS_two hr hv h1]
        rcases never_or hv with h | ⟨rfl, h⟩
        · exact text_two n d hp2 hn.2 (by omega) hd.2 h1 h k0 w he
        · exact text_two1 d (by omega) hd.2 h1 h k0 w he
  · rw [textS_wrong hr]
    rw [Bool.eq_false_iff.2 hr] at k0
    exact text_wrong n d k0 w

theorem rtext_c (n d : Int) (hn : In64 n) (hd : In64 d) (hr : rightB n d = true) (w : World) :
    Calls Tryd.prog 36 #[.agg #[.int .i64 n, .int .i64 d]] w fun e w' => e = .returned (.string (textS n d)) ∧ Below w.heap.size w w' := by
  have k1 := rright_c n d hn hd
  rw [hr] at k1
  by_cases hv : isNever n d
  · obtain ⟨rfl, rfl⟩ := hv
    rw [textS_never]
    exact rtext_never 1 0 rnever_yes w
  · have hp := plain_of hr hv
    have hp1 := hp.1
    have hp2 := hp.2.1
    have k0 := rnever_no n d hv
    by_cases h1 : d = 1
    · subst h1
      rw [textS_one hr]
      exact rtext_one n hp2 hn.2 k0 k1 w
    · rw [textS_two hr hv h1]
      exact rtext_two n d hp2 hn.2 (by omega) hd.2 h1 k0 k1 w
end Go.Proofs.YtmkclkppolfpnaaDoor

/-
  Plain mathematics of the texts of times: a text is cut in one way, and tells its time. No condition but those that each theorem states.
-/
namespace Go.Proofs.YtmkclkppolfpnaaDoor.Tx
open Go.RowKit

def dval (l : List UInt8) : Nat := l.foldl (fun a c => a * 10 + (c.toNat - 48)) 0
theorem dval_snoc (l : List UInt8) (c : UInt8) : dval (l ++ [c]) = dval l * 10 + (c.toNat - 48) := by unfold dval; rw [List.foldl_append]; rfl
theorem digit_nat (d : Nat) (h : d < 10) : (UInt8.ofNat (48 + d)).toNat = 48 + d := by
  rw [UInt8.toNat_ofNat']
  exact Nat.mod_eq_of_lt (by omega)
theorem dec_val (n : Nat) : dval (Lib.decDigits n) = n := by
  induction n using Nat.strongRecOn with
  | _ n ih =>
    rw [Lib.decDigits]
    by_cases h : n < 10
    · rw [dif_pos h]
      show 0 * 10 + ((UInt8.ofNat (48 + n)).toNat - 48) = n
      rw [digit_nat n h]
      omega
    · rw [dif_neg h, dval_snoc, ih (n / 10) (by omega), digit_nat _ (by omega)]
      omega
theorem dec_inj {a b : Nat} (h : Lib.decDigits a = Lib.decDigits b) : a = b := by rw [← dec_val a, h, dec_val]
theorem dec_chars (n : Nat) : ∀ c ∈ Lib.decDigits n, 48 ≤ c.toNat ∧ c.toNat ≤ 57 := by
  induction n using Nat.strongRecOn with
  | _ n ih =>
    rw [Lib.decDigits]
    by_cases h : n < 10
    · rw [dif_pos h]
      intro c hc
      rw [List.mem_singleton] at hc
      subst hc
      rw [digit_nat n h]
      omega
    · rw [dif_neg h]
      intro c hc
      rw [List.mem_append, List.mem_singleton] at hc
      rcases hc with hc | hc
      · exact ih (n / 10) (by omega) c hc
      · subst hc
        rw [digit_nat _ (by omega)]
        omega
theorem dec_ne (n : Nat) : Lib.decDigits n ≠ [] := by
  rw [Lib.decDigits]
  by_cases h : n < 10
  · rw [dif_pos h]; simp
  · rw [dif_neg h]; simp
theorem dec_small {n : Nat} (h : n < 10) : Lib.decDigits n = [UInt8.ofNat (48 + n)] := by rw [Lib.decDigits, dif_pos h]
theorem dec_big {n : Nat} (h : ¬ n < 10) : Lib.decDigits n = Lib.decDigits (n / 10) ++ [UInt8.ofNat (48 + n % 10)] := by rw [Lib.decDigits, dif_neg h]
/-- The first digit is a nought just where the number is. -/
theorem dec_head (n : Nat) : ∃ c l, Lib.decDigits n = c :: l ∧ (c = 48 → n = 0) := by
  induction n using Nat.strongRecOn with
  | _ n ih =>
    by_cases h : n < 10
    · refine ⟨_, [], dec_small h, fun e => ?_⟩
      have := congrArg UInt8.toNat e
      rw [digit_nat n h] at this
      have e48 : (48 : UInt8).toNat = 48 := rfl
      omega
    · obtain ⟨c, l, e, hz⟩ := ih (n / 10) (by omega)
      refine ⟨c, l ++ [UInt8.ofNat (48 + n % 10)], by rw [dec_big h, e]; rfl, fun e2 => ?_⟩
      have := hz e2
      omega
theorem dec_zero (n : Nat) (l : List UInt8) (h : Lib.decDigits n = 48 :: l) : l = [] := by
  obtain ⟨c, m, e, hz⟩ := dec_head n
  rw [e] at h
  injection h with h1 h2
  have hn := hz h1
  subst hn
  rw [dec_small (by omega)] at e
  injection e with e1 e2
  rw [← h2, ← e2]

theorem dval_from (l : List UInt8) : ∀ a, a ≤ l.foldl (fun a c => a * 10 + (c.toNat - 48)) a := by
  induction l with
  | nil => intro a; exact Nat.le_refl _
  | cons c l ih => intro a; exact Nat.le_trans (by omega) (ih (a * 10 + (c.toNat - 48)))
theorem dval_le (p r : List UInt8) : dval p ≤ dval (p ++ r) := by
  unfold dval
  rw [List.foldl_append]
  exact dval_from r _
/-- A row of digits without a nought ahead is the number's own. -/
theorem dec_dval : ∀ (k : Nat) (l : List UInt8), l.length = k + 1 → (∀ c ∈ l, 48 ≤ c.toNat ∧ c.toNat ≤ 57) → (k = 0 ∨ l.head? ≠ some 48) → Lib.decDigits (dval l) = l
  | 0, l, hl, hc, _ => by
    obtain ⟨c, rfl⟩ : ∃ c, l = [c] := by
      match l, hl with
      | [c], _ => exact ⟨c, rfl⟩
    have h := hc c (by simp)
    have e : dval [c] = c.toNat - 48 := by show 0 * 10 + (c.toNat - 48) = _; omega
    rw [e, dec_small (by omega), show 48 + (c.toNat - 48) = c.toNat from by omega, UInt8.ofNat_toNat]
  | k + 1, l, hl, hc, hh => by
    have hne : l ≠ [] := by intro e; rw [e] at hl; simp at hl
    obtain ⟨p, c, rfl⟩ : ∃ p c, l = p ++ [c] := ⟨l.dropLast, l.getLast hne, (List.dropLast_concat_getLast hne).symm⟩
    have hp : p.length = k + 1 := by simp at hl; omega
    have hpne : p ≠ [] := by intro e; rw [e] at hp; simp at hp
    have hcp : ∀ c ∈ p, 48 ≤ c.toNat ∧ c.toNat ≤ 57 := fun x hx => hc x (by simp [hx])
    have h48 : p.head? ≠ some 48 := by
      rcases hh with hh | hh
      · omega
      · intro e
        refine hh ?_
        cases p with
        | nil => exact absurd rfl hpne
        | cons a q => exact e
    have ih := dec_dval k p hp hcp (.inr h48)
    have hcc := hc c (by simp)
    have hpos : 0 < dval p := by
      rcases Nat.eq_zero_or_pos (dval p) with e | e
      · rw [e, dec_small (by omega)] at ih
        rw [← ih] at h48
        exact absurd rfl h48
      · exact e
    rw [dval_snoc, dec_big (by omega), show (dval p * 10 + (c.toNat - 48)) / 10 = dval p from by omega, ih,
      show 48 + (dval p * 10 + (c.toNat - 48)) % 10 = c.toNat from by omega, UInt8.ofNat_toNat]

/-! ### Atoi of a number's own text -/
theorem parse_dval : ∀ (r p : List UInt8), (∀ c ∈ r, 48 ≤ c.toNat ∧ c.toNat ≤ 57) → dval (p ++ r) < 18446744073709551616 → Lib.parseUint10 (dval p) r = .ok (dval (p ++ r))
  | [], p, _, _ => by simp [Lib.parseUint10]
  | c :: r, p, hc, hb => by
    have h := hc c (by simp)
    have e : p ++ c :: r = (p ++ [c]) ++ r := by simp
    have hle : dval p * 10 + (c.toNat - 48) < 18446744073709551616 := by
      rw [← dval_snoc]
      have := dval_le (p ++ [c]) r
      rw [← e] at this
      omega
    rw [Lib.parseUint10, if_pos h, if_neg (by omega), if_neg (by omega), ← dval_snoc]
    rw [parse_dval r (p ++ [c]) (fun x hx => hc x (by simp [hx])) (by rw [← e]; exact hb), ← e]
theorem atoi_dec (n : Nat) (h : (n : Int) ≤ 9223372036854775807) : Lib.atoiAll (Lib.decDigits n) = .ok (n : Int) := by
  obtain ⟨c, l, e, _⟩ := dec_head n
  have hcs := dec_chars n
  have hc := hcs c (by rw [e]; simp)
  have h2 := parse_dval (Lib.decDigits n) [] hcs (by rw [List.nil_append, dec_val]; omega)
  rw [List.nil_append, dec_val] at h2
  rw [show dval [] = 0 from rfl] at h2
  have hm : Lib.parseMag (c :: l) = .ok n := by
    rw [← e]
    unfold Lib.parseMag
    rw [if_neg (dec_ne n), h2]
  rw [e, Lib.atoiAll_plain c l (by omega) (by omega), hm]
  simp only [Lib.signless]
  rw [if_neg (by omega)]

/-! ### The cut -/
/-- k is the place of the first 47 of l, or l's length. -/
def First (l : List UInt8) (k : Nat) : Prop := k ≤ l.length ∧ (∀ j, j < k → l[j]? ≠ some 47) ∧ (k < l.length → l[k]? = some 47)
theorem first_digits {a : List UInt8} (ha : ∀ c ∈ a, 48 ≤ c.toNat ∧ c.toNat ≤ 57) {k : Nat} (h : First a k) : k = a.length := by
  obtain ⟨h1, _, h3⟩ := h
  rcases Nat.lt_or_ge k a.length with hk | hk
  · have := List.mem_of_getElem? (h3 hk)
    have := ha _ this
    have e : (47 : UInt8).toNat = 47 := rfl
    omega
  · omega
theorem first_cut {a b : List UInt8} (ha : ∀ c ∈ a, 48 ≤ c.toNat ∧ c.toNat ≤ 57) {k : Nat} (h : First (a ++ 47 :: b) k) : k = a.length := by
  obtain ⟨h1, h2, h3⟩ := h
  rcases Nat.lt_trichotomy k a.length with hk | hk | hk
  · have h4 := h3 (by simp; omega)
    rw [List.getElem?_append_left hk] at h4
    have := ha _ (List.mem_of_getElem? h4)
    have e : (47 : UInt8).toNat = 47 := rfl
    omega
  · exact hk
  · refine absurd ?_ (h2 a.length hk)
    simp

def neverL : List UInt8 := [110, 101, 118, 101, 114]
/-- l is the text of the time n/d. -/
def T (l : List UInt8) (n d : Int) : Prop := In64 n ∧ In64 d ∧ rightB n d = true ∧ l = textL n d
theorem T_never : T neverL 1 0 := ⟨⟨by omega, by omega⟩, ⟨by omega, by omega⟩, right_never, rfl⟩
/-- What the parts are. -/
def Parts (l : List UInt8) (k : Nat) (n d : Int) : Prop := 0 ≤ n ∧ ((k = l.length ∧ d = 1 ∧ l = Lib.decDigits n.toNat) ∨ (k < l.length ∧ 1 < d ∧ l.take k = Lib.decDigits n.toNat ∧ l.drop (k + 1) = Lib.decDigits d.toNat))
theorem T_text {l : List UInt8} {n d : Int} (h : T l n d) : (n = 1 ∧ d = 0 ∧ l = neverL) ∨ (0 ≤ n ∧ ((d = 1 ∧ l = Lib.decDigits n.toNat) ∨ (1 < d ∧ l = Lib.decDigits n.toNat ++ 47 :: Lib.decDigits d.toNat))) := by
  obtain ⟨hn, hd, hr, hl⟩ := h
  unfold textL at hl
  by_cases hv : isNever n d
  · rw [if_pos hv] at hl
    exact .inl ⟨hv.1, hv.2, hl⟩
  · rw [if_neg hv] at hl
    have hp := plain_of hr hv
    refine .inr ⟨hp.2.1, ?_⟩
    by_cases h1 : d = 1
    · rw [if_pos h1] at hl
      exact .inl ⟨h1, hl⟩
    · rw [if_neg h1] at hl
      exact .inr ⟨by have := hp.1; omega, hl⟩
theorem T_parts {l : List UInt8} {n d : Int} {k : Nat} (h : T l n d) (hne : l ≠ neverL) (hf : First l k) : Parts l k n d := by
  rcases T_text h with ⟨_, _, e⟩ | ⟨h0, ⟨h1, e⟩ | ⟨h1, e⟩⟩
  · exact absurd e hne
  · refine ⟨h0, .inl ⟨?_, h1, e⟩⟩
    rw [e] at hf ⊢
    exact first_digits (dec_chars _) hf
  · rw [e] at hf ⊢
    have hk := first_cut (dec_chars _) hf
    refine ⟨h0, .inr ⟨?_, h1, ?_, ?_⟩⟩
    · rw [hk]; simp
    · rw [hk]; simp
    · rw [hk, List.drop_append]; simp
theorem never_first {n : Nat} {r : List UInt8} (h : neverL = Lib.decDigits n ++ r) : False := by
  obtain ⟨c, l, e, _⟩ := dec_head n
  have hc := dec_chars n c (by rw [e]; simp)
  rw [e] at h
  injection h with h1 h2
  rw [← h1] at hc
  have : (110 : UInt8).toNat = 110 := rfl
  omega
theorem T_is_never {n d : Int} (h : T neverL n d) : n = 1 ∧ d = 0 := by
  rcases T_text h with ⟨h1, h2, _⟩ | ⟨_, ⟨_, e⟩ | ⟨_, e⟩⟩
  · exact ⟨h1, h2⟩
  · exact (never_first (r := []) (by simpa using e)).elim
  · exact (never_first e).elim
theorem T_of_parts {l : List UInt8} {n d : Int} {k : Nat} (hn : In64 n) (hd : In64 d) (hr : rightB n d = true) (hf : First l k) (h : Parts l k n d) : T l n d := by
  refine ⟨hn, hd, hr, ?_⟩
  unfold textL
  obtain ⟨h0, ⟨_, h2, h3⟩ | ⟨h1, h2, h3, h4⟩⟩ := h
  · rw [if_neg (by unfold isNever; omega), if_pos h2]
    exact h3
  · rw [if_neg (by unfold isNever; omega), if_neg (by omega), ← h3, ← h4]
    have e := hf.2.2 h1
    have e2 : l[k] = 47 := by
      rw [List.getElem?_eq_getElem h1] at e
      exact Option.some.inj e
    rw [← e2, ← List.drop_eq_getElem_cons h1, List.take_append_drop]
theorem first_is (l : List UInt8) : ∃ k, First l k := by
  induction l with
  | nil => exact ⟨0, Nat.le_refl _, fun j hj => absurd hj (Nat.not_lt_zero _), fun h => absurd h (Nat.lt_irrefl _)⟩
  | cons c l ih =>
    by_cases h : c = 47
    · exact ⟨0, Nat.zero_le _, fun j hj => absurd hj (Nat.not_lt_zero _), fun _ => by rw [h]; rfl⟩
    · obtain ⟨k, h1, h2, h3⟩ := ih
      refine ⟨k + 1, by simp; omega, fun j hj => ?_, fun hk => ?_⟩
      · cases j with
        | zero => simpa using h
        | succ j => simpa using h2 j (by omega)
      · simpa using h3 (by simpa using hk)
theorem parts_inj {l : List UInt8} {k : Nat} {n d n' d' : Int} (h : Parts l k n d) (h' : Parts l k n' d') : n = n' ∧ d = d' := by
  obtain ⟨h0, ⟨a1, a2, a3⟩ | ⟨a1, a2, a3, a4⟩⟩ := h <;> obtain ⟨h0', ⟨b1, b2, b3⟩ | ⟨b1, b2, b3, b4⟩⟩ := h'
  · have := dec_inj (a3.symm.trans b3)
    omega
  · omega
  · omega
  · have e1 := dec_inj (a3.symm.trans b3)
    have e2 := dec_inj (a4.symm.trans b4)
    omega
theorem T_inj {l : List UInt8} {n d n' d' : Int} (h : T l n d) (h' : T l n' d') : n = n' ∧ d = d' := by
  by_cases e : l = neverL
  · subst e
    have h1 := T_is_never h
    have h2 := T_is_never h'
    omega
  · obtain ⟨k, hf⟩ := first_is l
    exact parts_inj (T_parts h e hf) (T_parts h' e hf)
theorem T_ne {l : List UInt8} {n d : Int} (h : T l n d) : l ≠ [] := by
  rcases T_text h with ⟨_, _, e⟩ | ⟨_, ⟨_, e⟩ | ⟨_, e⟩⟩ <;> rw [e]
  · simp [neverL]
  · exact dec_ne _
  · simp
/-- The library's cut. -/
theorem cut_first (l : List UInt8) : ∃ k, First l k ∧ Lib.cut l [47] = if k < l.length then (l.take k, l.drop (k + 1), true) else (l, [], false) := by
  unfold Lib.cut
  rcases Lib.index_spec l [47] with ⟨h1, h2⟩ | ⟨i, h1, h2, h3, h4⟩
  · refine ⟨l.length, ⟨Nat.le_refl _, fun j hj e => ?_, fun h => absurd h (Nat.lt_irrefl _)⟩, ?_⟩
    · have := h2 j (by omega)
      rw [Lib.occAt, List.drop_eq_getElem_cons hj] at this
      rw [List.getElem?_eq_getElem hj] at e
      simp at e
      rw [e] at this
      simp at this
    · rw [if_neg (by omega), if_neg (Nat.lt_irrefl _)]
  · have hi : i < l.length ∧ l[i]? = some 47 := by
      rw [Lib.occAt] at h3
      rcases Nat.lt_or_ge i l.length with hlt | hge
      · rw [List.drop_eq_getElem_cons hlt] at h3
        simp only [List.isPrefixOf, Bool.and_eq_true, beq_iff_eq] at h3
        exact ⟨hlt, by rw [List.getElem?_eq_getElem hlt, ← h3.1]⟩
      · rw [List.drop_eq_nil_of_le hge] at h3
        simp at h3
    refine ⟨i, ⟨h2, fun j hj e => ?_, fun _ => hi.2⟩, ?_⟩
    · have := h4 j hj
      have hjl : j < l.length := by omega
      rw [Lib.occAt, List.drop_eq_getElem_cons hjl] at this
      rw [List.getElem?_eq_getElem hjl] at e
      simp at e
      rw [e] at this
      simp at this
    · rw [if_pos (by omega), if_pos hi.1, h1]
      rfl
end Go.Proofs.YtmkclkppolfpnaaDoor.Tx

/-
  The contract of the given package gavotteref06's Text over this seat's translation, and that two right stamps are the same just if their texts are. Conditions: the numbers are ints.
-/
namespace Go.Proofs.YtmkclkppolfpnaaDoor
open Go.RowKit Tx

theorem stL_len {n d : Int} (hn : In64 n) (hd : In64 d) (h : rightB n d = true) : (textL n d).length ≤ 39 := by
  unfold textL
  by_cases hv : isNever n d
  · rw [if_pos hv]; simp
  · rw [if_neg hv]
    have hp := plain_of h hv
    have l1 := dec_len n.toNat (by have := hp.2.1; have := hn.2; omega)
    have l2 := dec_len d.toNat (by have := hp.1; have := hd.2; omega)
    split
    · omega
    · simp only [List.length_append, List.length_cons]
      omega
/-- The text of a right stamp. -/
def stL (n d c : Int) : List UInt8 := if c = 0 then textL n d else textL n d ++ 43 :: Lib.decDigits c.toNat
def sText (n d c : Int) : ByteArray := if sRight n d c = true then bs (stL n d c) else ⟨#[]⟩

/-- No plus in the text of a time. -/
theorem textL_no_plus {n d : Int} : ∀ x ∈ textL n d, x ≠ 43 := by
  intro x hx
  unfold textL at hx
  have hd : ∀ m : Nat, ∀ y ∈ Lib.decDigits m, y ≠ 43 := fun m y hy e => by
    have := dec_chars m y hy
    rw [e] at this
    have e2 : (43 : UInt8).toNat = 43 := rfl
    omega
  split at hx
  · simp at hx
    rcases hx with rfl | rfl | rfl | rfl | rfl <;> decide
  · split at hx
    · exact hd _ x hx
    · rcases List.mem_append.1 hx with h | h
      · exact hd _ x h
      · rcases List.mem_cons.1 h with rfl | h
        · decide
        · exact hd _ x h
theorem cut_plus {a b a' b' : List UInt8} (h1 : ∀ x ∈ a, x ≠ 43) (h2 : ∀ x ∈ a', x ≠ 43) (h : a ++ 43 :: b = a' ++ 43 :: b') : a = a' ∧ b = b' := by
  induction a generalizing a' with
  | nil =>
    cases a' with
    | nil => simpa using h
    | cons y ys =>
      rw [List.nil_append, List.cons_append, List.cons.injEq] at h
      exact absurd h.1.symm (h2 y (List.mem_cons_self ..))
  | cons x xs ih =>
    cases a' with
    | nil =>
      rw [List.nil_append, List.cons_append, List.cons.injEq] at h
      exact absurd h.1 (h1 x (List.mem_cons_self ..))
    | cons y ys =>
      rw [List.cons_append, List.cons_append, List.cons.injEq] at h
      obtain ⟨e1, e2⟩ := ih (fun z hz => h1 z (List.mem_cons_of_mem _ hz)) (fun z hz => h2 z (List.mem_cons_of_mem _ hz)) h.2
      exact ⟨by rw [h.1, e1], e2⟩
theorem stL_inj {n d c n' d' c' : Int} (h1 : In3 n d c) (h2 : In3 n' d' c') (r1 : sRight n d c = true) (r2 : sRight n' d' c' = true) (h : stL n d c = stL n' d' c') : n = n' ∧ d = d' ∧ c = c' := by
  have q1 := sRight_iff.1 r1
  have q2 := sRight_iff.1 r2
  have hT : textL n d = textL n' d' → n = n' ∧ d = d' := fun e => T_inj (l := textL n d) ⟨h1.1, h1.2.1, q1.1, rfl⟩ ⟨h2.1, h2.2.1, q2.1, e⟩
  unfold stL at h
  by_cases e1 : c = 0
  · by_cases e2 : c' = 0
    · rw [if_pos e1, if_pos e2] at h
      exact ⟨(hT h).1, (hT h).2, by omega⟩
    · rw [if_pos e1, if_neg e2] at h
      exact absurd rfl (textL_no_plus (n := n) (d := d) 43 (by rw [h]; simp))
  · by_cases e2 : c' = 0
    · rw [if_neg e1, if_pos e2] at h
      exact absurd rfl (textL_no_plus (n := n') (d := d') 43 (by rw [← h]; simp))
    · rw [if_neg e1, if_neg e2] at h
      obtain ⟨k1, k2⟩ := cut_plus textL_no_plus textL_no_plus h
      have := dec_inj k2
      exact ⟨(hT k1).1, (hT k1).2, by omega⟩
theorem stL_ne {n d c : Int} (h1 : In3 n d c) (r1 : sRight n d c = true) : stL n d c ≠ [] := by
  unfold stL
  split
  · exact T_ne (l := textL n d) ⟨h1.1, h1.2.1, (sRight_iff.1 r1).1, rfl⟩
  · simp

set_option maxHeartbeats 4000000 in
set_option maxRecDepth 100000 in
theorem r6text_c (n d c : Int) (hs : In3 n d c) (w : World) :
    Calls Tryd.prog 17 #[stV n d c] w fun e w' => e = .returned (.string (sText n d c)) ∧ Below w.heap.size w w' := by
  have K1 := Lib.hid (r6right_c n d c hs)
  have hnew := World.alloc_heap_new w (.cells #[.int .i64 n, .int .i64 d, .int .i64 c] 25)
  have hb0 : Below w.heap.size w (w.alloc (.cells #[.int .i64 n, .int .i64 d, .int .i64 c] 25)) := (Below.refl _ w).alloc (Nat.le_refl _) _
  have HN := Lib.hid (And.intro hnew hb0)
  clear hnew hb0
  by_cases r1 : sRight n d c = true
  · have q := sRight_iff.1 r1
    have K2 := Lib.hid (rtext_c n d hs.1 hs.2.1 q.1)
    rw [r1] at K1
    by_cases h0 : c = 0
    · have hS : sText n d c = textS n d := by unfold sText textS stL; rw [if_pos r1, if_pos h0, if_pos q.1]
      have hz : (c == 0) = true := by simpa using h0
      rw [hS]
      clear q r1 hS hs h0
      go_enter Tryd.func17, Tryd.ntmps17
      go_wp2_with fail
      refine (K1.out _).mono ?_
      rintro e w1 ⟨rfl, hb1⟩
      obtain ⟨c0, c1, c2⟩ := cells3 HN.out.1 hb1
      have HB := Lib.hid (belowT HN.out.2 hb1)
      clear hb1
      go_wp2_with fail
      refine (K2.out _).mono ?_
      rintro e w2 ⟨rfl, hb2⟩
      have HB := Lib.hid (belowT HB.out hb2)
      clear hb2
      go_wp2
      go_ret
      exact ⟨rfl, HB.out⟩
    · have hS : sText n d c = ⟨(textL n d ++ 43 :: Lib.decDigits c.toNat).toArray⟩ := by unfold sText stL; rw [if_pos r1, if_neg h0]
      have hS2 : textS n d = ⟨(textL n d).toArray⟩ := by unfold textS; rw [if_pos q.1]
      have hz : (c == 0) = false := by simpa using h0
      have hl := stL_len hs.1 hs.2.1 q.1
      have hl2 := dec_len c.toNat (by have := q.2.1; omega)
      have KD := Lib.hid (dec_c c.toNat (by have := q.2.1; omega))
      rw [Int.toNat_of_nonneg q.2.1.1] at KD
      rw [hS]
      rw [hS2] at K2
      generalize textL n d = L at *
      generalize Lib.decDigits c.toNat = M at *
      have hl3 : ¬ 9223372036854775807 < L.length + 1 := by omega
      have hl4 : ¬ 9223372036854775807 < L.length + 1 + M.length := by omega
      clear q r1 hS hS2 hs h0
      have mixed : Tryd.prog.follows .mixedOrders = true := by kernel_rfl
      go_enter Tryd.func17, Tryd.ntmps17
      go_wp2_with fail
      refine (K1.out _).mono ?_
      rintro e w1 ⟨rfl, hb1⟩
      obtain ⟨c0, c1, c2⟩ := cells3 HN.out.1 hb1
      have WB := belowT HN.out.2 hb1
      clear hb1
      go_wp2_with fail
      go_region_held3 (fun w' => w'.cell? ⟨w.heap.size, 0, none⟩ = some (.int .i64 n) ∧ w'.cell? ⟨w.heap.size, 1, none⟩ = some (.int .i64 d) ∧ w'.cell? ⟨w.heap.size, 2, none⟩ = some (.int .i64 c) ∧ Below w.heap.size w w')
        (first | exact ⟨c0, c1, c2, Below.drew WB⟩ | (go_split_ands; exact ⟨keepc hb (by assumption), keepc hb (by assumption), keepc hb (by assumption), belowT (by assumption) hb⟩) | go_keep)
        (first
          | (go_at_call 36; refine (K2.out _).mono ?_; rintro e w6 ⟨rfl, hb⟩)
          | (go_at_call 37; refine (KD.out _).mono ?_; rintro e w6 ⟨rfl, hb⟩))
      all_goals go_wp2
      all_goals go_ret
      all_goals exact ⟨ret_str (by rw [show (⟨#[43]⟩ : ByteArray) = ⟨([43] : List UInt8).toArray⟩ from rfl, bapp, bapp]; simp), (by repeat (first | with_reducible assumption | with_reducible exact Below.refl _ _ | with_reducible refine belowN ?_ _ | with_reducible refine Below.drew ?_ | with_reducible refine belowA ?_ _ | with_reducible refine belowT ?_ (by assumption)))⟩
  · rw [Bool.eq_false_iff.2 r1] at K1
    have hS : sText n d c = ⟨#[]⟩ := by unfold sText; rw [if_neg r1]
    rw [hS]
    clear r1 hS hs
    go_enter Tryd.func17, Tryd.ntmps17
    go_wp2_with fail
    refine (K1.out _).mono ?_
    rintro e w1 ⟨rfl, hb1⟩
    have HB := Lib.hid (belowT HN.out.2 hb1)
    clear hb1
    go_wp2
    go_ret
    exact ⟨rfl, HB.out⟩
end Go.Proofs.YtmkclkppolfpnaaDoor
