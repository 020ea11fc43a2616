/-
  The law TokenScans over this seat's translation, from the contracts of Scan. Conditions: those that each theorem states.
-/
import Derived.Test.YtikpbfghdiomgaaDoorT8D
import Derived.Test.YtikpbfghdiomgaaDoorT8O
namespace Go.Proofs.YtikpbfghdiomgaaDoor
open Go.RowKit Go.Lib Tk
attribute [local go_sem] Oper.semAt_some

theorem lex_len : ∀ (f p : Nat) (l : Bs), (lex f p l).1.length ≤ l.length + 1
  | 0, _, _ => Nat.zero_le _
  | f + 1, p, [] => by rw [lex_nil]; exact Nat.le_refl _
  | f + 1, p, c :: r => by
    rw [lex_cons]
    by_cases h1 : isB c = true
    · rw [if_pos h1]
      have := lex_len f (p + 1) r
      rw [List.length_cons]
      omega
    · rw [if_neg h1]
      by_cases h2 : c.toNat = 35
      · rw [if_pos h2]
        have := lex_len f (p + 1 + (r.takeWhile isE).length) (r.drop (r.takeWhile isE).length)
        rw [List.length_drop] at this
        rw [List.length_cons]
        omega
      · rw [if_neg h2]
        by_cases h3 : (word (c :: r)).1 = 0
        · rw [if_pos h3]
          have := lex_len f (p + (word (c :: r)).2.2.2.2) ((c :: r).drop (word (c :: r)).2.2.2.2)
          have h4 := word_len h3
          rw [List.length_drop] at this
          simp only [List.length_cons] at *
          omega
        · rw [if_neg h3]
          exact Nat.zero_le _
theorem scan_len (l : Bs) : (Tk.scan l).1.length ≤ 16385 := by
  by_cases h : (Tk.scan l).2.2 = 0
  · obtain ⟨h1, _, h3⟩ := scan_ok h
    have := lex_len (l.length + 1) 0 l
    rw [h3] at this
    exact Nat.le_trans this (by omega)
  · rw [scan_no h]
    exact Nat.zero_le _
/-- What the program's Scan answers. -/
def ScP (w : World) (s : ByteArray) (e : Ending) (W' : World) : Prop := (∃ v, e = .returned (.tuple #[v, .int .i64 ((Tk.scan (bs s)).2.1 : Int), .int .i64 (Tk.scan (bs s)).2.2]) ∧ W'.ownsRow w.heap.size 28 4 v (Tk.scan (bs s)).1.length ((Tk.scan (bs s)).1.flatMap cW)) ∧ Below w.heap.size w W'
/-- What the laws want of both. -/
structure TkC : Prop where
  scan : ∀ (s : ByteArray), s.size ≤ 9223372036854775807 → ∀ w, Env8 w → Calls Tryd.prog 8 #[.string s] w fun e w' => ScP w s e w'
  ref : ∀ (s : ByteArray), s.size ≤ 9223372036854775807 → ∀ w, Calls Tryd.prog 10 #[.string s] w fun e w' => ScA w s e w'
abbrev AwakeC : Prop := ∀ w, Env8 w → Calls Tryd.prog 7 #[] w fun e w' => e = .returned (.bool true) ∧ Below w.heap.size w w'

set_option maxHeartbeats 8000000 in
set_option maxRecDepth 100000 in
theorem scans_c (C : TkC) (KA : AwakeC) (s : ByteArray) (hmax : s.size ≤ 9223372036854775807) (w : World) (he : Env8 w) :
    Calls Tryd.prog 4 #[.string s] w fun e w' => e = .returned (.bool true) ∧ Below w.heap.size w w' := by
  have mixed : Tryd.prog.follows .mixedOrders = true := by kernel_rfl
  have HE := Lib.hid fun w1 (hb : Below w.heap.size w w1) => he.keep hb
  have KA := Lib.hid fun w1 (hb : Below w.heap.size w w1) => KA w1 (HE.out w1 hb)
  clear he
  by_cases hbig : s.size ≤ 30000
  · have d1 : decide ((s.size : Int) > 30000) = false := decide_eq_false (by omega)
    have d2 : decide (30000 < s.size) = false := decide_eq_false (by omega)
    have KS := Lib.hid fun w1 (hb : Below w.heap.size w w1) => C.scan s hmax w1 (HE.out w1 hb)
    have KR := Lib.hid (C.ref s hmax)
    have HLN := Lib.hid (scan_len (bs s))
    unfold ScP at KS
    unfold ScA at KR
    obtain ⟨L, n, er, hsc⟩ : ∃ L n er, Tk.scan (bs s) = (L, n, er) := ⟨_, _, _, rfl⟩
    rw [hsc] at KS KR HLN
    obtain ⟨z, hz⟩ : ∃ z : Int, (n : Int) = z := ⟨_, rfl⟩
    simp only [hz] at KS KR
    clear hsc hz C
    go_enter Tryd.func4, Tryd.ntmps4
    go_wp2_with fail
    refine (KA.out _ (Below.refl _ _)).mono ?_
    rintro e w1 ⟨rfl, hb1⟩
    have HB1 := Lib.hid hb1
    clear hb1
    go_wp2_with fail
    refine (KS.out _ HB1.out).mono ?_
    rintro e w2 ⟨⟨v, rfl, hr⟩, hb2⟩
    obtain ⟨p, c, rfl, hf⟩ := rowW_form hr
    have HF := Lib.hid hf
    have HB2 := Lib.hid (belowT8 HB1.out hb2)
    clear hr hf hb2
    go_wp2_with fail
    refine (KR.out _).mono ?_
    rintro e w3 ⟨⟨v, rfl, hr⟩, hb3⟩
    obtain ⟨q, d, rfl, hf⟩ := rowW_form hr
    have HG := Lib.hid hf
    replace HF := Lib.hid (HF.out.keep hb3)
    have HB3 := Lib.hid (belowT8 HB2.out hb3)
    clear hr hf hb3
    go_wp2_with fail
    refine (plain8_c L p c w3 HF.out (by have := HLN.out; omega)).mono ?_
    rintro e w4 ⟨v, rfl, hr, hb4⟩
    obtain ⟨t, f, rfl, hf⟩ := rowW_form hr
    have HH := Lib.hid hf
    replace HG := Lib.hid (HG.out.keep hb4)
    have HB4 := Lib.hid (belowT8 HB3.out hb4)
    clear hr hf hb4
    go_wp2_with fail
    refine (rsame8_c L L t q f d w4 (by have := HLN.out; omega) HH.out HG.out).mono ?_
    rintro e w5 ⟨rfl, hb5⟩
    rw [show decide (L = L) = true from decide_eq_true rfl]
    have HB5 := Lib.hid (belowT8 HB4.out hb5)
    clear hb5
    go_wp2
    go_ret
    exact ⟨rfl, HB5.out⟩
  · have d1 : decide ((s.size : Int) > 30000) = true := decide_eq_true (by omega)
    have d2 : decide (30000 < s.size) = true := decide_eq_true (by omega)
    go_enter Tryd.func4, Tryd.ntmps4
    go_wp2_with fail
    refine (KA.out _ (Below.refl _ _)).mono ?_
    rintro e w1 ⟨rfl, hb1⟩
    have HB1 := Lib.hid hb1
    clear hb1
    go_wp2_with fail
    refine (KA.out _ HB1.out).mono ?_
    rintro e w2 ⟨rfl, hb2⟩
    have HB2 := Lib.hid (belowT8 HB1.out hb2)
    clear hb2
    go_wp2
    go_ret
    exact ⟨rfl, HB2.out⟩
end Go.Proofs.YtikpbfghdiomgaaDoor
