/-
  token's mark and name, strings.HasPrefix, strings.Clone over this seat's translation. Conditions: those that each theorem states.
-/
import Derived.Test.YtikpbfghdiomgaaDoorT8M
import Derived.Test.YtikpbfghdiomgaaDoorShelfC
namespace Go.Proofs.YtikpbfghdiomgaaDoor
open Go.RowKit Go.Lib Tk

theorem bs_to (s : ByteArray) (k : Nat) : bs (s.extract 0 k) = (bs s).take k := by
  rw [ext8]
  show (((bs s).drop 0).take (k - 0)).toArray.toList = _
  simp
theorem toList_bs (s : ByteArray) : s.toList = bs s := ByteArray.toList_eq ..
theorem bs_of (l : Bs) : bs ⟨l.toArray⟩ = l := by unfold bs; simp
theorem of_bs (s : ByteArray) : (⟨(bs s).toArray⟩ : ByteArray) = s := by
  apply ByteArray.ext
  unfold bs
  simp
theorem bs_inj {a b : ByteArray} (h : bs a = bs b) : a = b := by rw [← of_bs a, ← of_bs b, h]
theorem size_of (l : Bs) : (⟨l.toArray⟩ : ByteArray).size = l.length := by rw [← bs_len, bs_of]
theorem pclone_c (s : ByteArray) (hs : s.size ≤ 100000) (w : World) : Calls Tryd.prog 28 #[.string s] w fun e w' => e = .returned (.string s) ∧ Below w.heap.size w w' := by
  have K := Lib.hid (Tryd.stringslite_Clone s w (by omega))
  go_enter Tryd.func28, Tryd.ntmps28
  go_wp2_with fail
  refine K.out.mono ?_
  rintro e w1 ⟨rfl, hb⟩
  have HB := Lib.hid hb
  clear hb
  go_wp2
  go_ret
  exact ⟨rfl, HB.out⟩
theorem sl_prefix_c (s m : ByteArray) (w : World) :
    Calls Tryd.prog 34 #[.string s, .string m] w fun e w' => e = .returned (.bool (pre (bs m) (bs s))) ∧ w = w' := by
  by_cases h : m.size ≤ s.size
  · have h1 : (m.size : Int) ≤ (s.size : Int) := by omega
    have h2 : decide ((s.size : Int) ≥ (m.size : Int)) = true := decide_eq_true (by omega)
    have h3 : decide (m.size ≤ s.size) = true := decide_eq_true h
    have h0 : (0 : Int) ≤ (m.size : Int) := by omega
    have HP := Lib.hid (show pre (bs m) (bs s) = ((s.extract 0 m.size).toList == m.toList) from by
      rw [toList_bs, toList_bs, bs_to]
      unfold pre
      rw [bs_len, Bool.eq_iff_iff]
      simp)
    go_enter Tryd.func34, Tryd.ntmps34
    go_wp2
    go_ret
    exact ⟨rbool8 HP.out.symm, rfl⟩
  · have h1 : ¬ (m.size : Int) ≤ (s.size : Int) := by omega
    have h2 : decide ((s.size : Int) ≥ (m.size : Int)) = false := decide_eq_false (by omega)
    have h3 : decide (m.size ≤ s.size) = false := decide_eq_false h
    have HP := Lib.hid (show pre (bs m) (bs s) = false from by
      unfold pre
      refine decide_eq_false fun e => ?_
      have := congrArg List.length e
      rw [List.length_take, bs_len, bs_len] at this
      omega)
    go_enter Tryd.func34, Tryd.ntmps34
    go_wp2
    go_ret
    exact ⟨rbool8 HP.out.symm, rfl⟩
theorem prefix_c (s m : ByteArray) (w : World) :
    Calls Tryd.prog 30 #[.string s, .string m] w fun e w' => e = .returned (.bool (pre (bs m) (bs s))) ∧ w = w' := by
  have K := Lib.hid (sl_prefix_c s m w)
  generalize pre (bs m) (bs s) = b at *
  go_enter Tryd.func30, Tryd.ntmps30
  go_wp2_with fail
  refine K.out.mono ?_
  rintro e w1 ⟨rfl, rfl⟩
  go_wp2
  go_ret
  exact ⟨rfl, rfl⟩

/-- What name answers. -/
def nameR (l : Bs) : Bs × Int :=
  match l with
  | [] => ([], 5)
  | c :: _ => if isL c = true then (if 16 < (l.takeWhile isN).length then ([], 9) else (l.takeWhile isN, 0)) else ([], 5)
theorem nameR_bs {s : ByteArray} (h : 0 < s.size) : nameR (bs s) = if isL s[0] = true then (if 16 < ((bs s).takeWhile isN).length then ([], 9) else ((bs s).takeWhile isN, 0)) else ([], 5) := by
  have := bs_drop s h
  rw [List.drop_zero] at this
  rw [this]
  rfl
def NameA (s : ByteArray) (w : World) (e : Ending) (w' : World) : Prop := e = .returned (.tuple #[.string ⟨(nameR (bs s)).1.toArray⟩, .int .i64 (nameR (bs s)).2]) ∧ Below w.heap.size w w'
set_option maxHeartbeats 2000000 in
theorem pname_c (s : ByteArray) (hs : s.size ≤ 100000) (w : World) : Calls Tryd.prog 23 #[.string s] w fun e w' => NameA s w e w' := by
  by_cases h0 : s.size = 0
  · have e0 : s = ⟨#[]⟩ := bs_inj (by rw [List.eq_nil_of_length_eq_zero (show (bs s).length = 0 by rw [bs_len]; exact h0)]; rfl)
    subst e0
    go_enter Tryd.func23, Tryd.ntmps23
    go_wp2
    refine bodyPost_ret (results_tmp2 rfl _ _ _) rfl ?_
    exact ⟨rfl, Below.refl _ _⟩
  · have hpos : 0 < s.size := by omega
    have hz : (0 : Int) < (s.size : Int) := by omega
    have hne : (s.toList == ([] : List UInt8)) = false := by rw [toList_bs, beq_eq_false_iff_ne]; intro h; have := congrArg List.length h; rw [bs_len] at this; exact h0 this
    have hne2 : ¬ s.toList = [] := by rw [toList_bs]; intro h; have := congrArg List.length h; rw [bs_len] at this; exact h0 this
    have HR := Lib.hid (nameR_bs hpos)
    obtain ⟨x, hx⟩ : ∃ x : Int, ((s[0].toNat : Nat) : Int) = x := ⟨_, rfl⟩
    have KL := Lib.hid (show ∀ w1, Calls Tryd.prog 22 #[.int .u8 x] w1 fun e w' => e = .returned (.bool (isL s[0])) ∧ w1 = w' from fun w1 => by rw [← hx]; exact pletter_c _ w1)
    by_cases hL : isL s[0] = true
    · have KS := Lib.hid (stretch_inName_c s hs)
      rw [if_pos hL] at HR
      rw [hL] at KL
      obtain ⟨m, hm⟩ : ∃ m, ((bs s).takeWhile isN).length = m := ⟨_, rfl⟩
      have hml : m ≤ s.size := by rw [← hm, ← bs_len]; exact tw_le _
      have HT := Lib.hid (show (bs s).takeWhile isN = (bs s).take m from by rw [← hm]; exact (tw_take _).symm)
      rw [hm] at KS HR
      clear hm
      by_cases h16 : 16 < m
      · have e1 : decide ((m : Int) > 16) = true := decide_eq_true (by omega)
        have e2 : decide (16 < m) = true := decide_eq_true h16
        rw [if_pos h16] at HR
        go_enter Tryd.func23, Tryd.ntmps23
        go_wp2_with fail
        refine (KL.out _).mono ?_
        rintro e w1 ⟨rfl, rfl⟩
        go_wp2_with fail
        refine (KS.out _).mono ?_
        rintro e w1 ⟨rfl, rfl⟩
        go_wp2
        refine bodyPost_ret (results_tmp2 rfl _ _ _) rfl ?_
        unfold NameA
        rw [HR.out]
        exact ⟨rfl, Below.refl _ _⟩
      · have e1 : decide ((m : Int) > 16) = false := decide_eq_false (by omega)
        have e2 : decide (16 < m) = false := decide_eq_false h16
        rw [if_neg h16] at HR
        have hmz : (m : Int) ≤ (s.size : Int) := by omega
        have hm0 : (0 : Int) ≤ (m : Int) := by omega
        have KC := Lib.hid (pclone_c (s.extract 0 m) (by rw [ext_size s hml]; omega))
        go_enter Tryd.func23, Tryd.ntmps23
        go_wp2_with fail
        refine (KL.out _).mono ?_
        rintro e w1 ⟨rfl, rfl⟩
        go_wp2_with fail
        refine (KS.out _).mono ?_
        rintro e w1 ⟨rfl, rfl⟩
        go_wp2_with fail
        refine (KC.out _).mono ?_
        rintro e w1 ⟨rfl, hb⟩
        have HB := Lib.hid hb
        clear hb
        go_wp2
        refine bodyPost_ret (results_tmp2 rfl _ _ _) rfl ?_
        unfold NameA
        rw [HR.out]
        exact ⟨by rw [HT.out, ← bs_to, of_bs]; rfl, HB.out⟩
    · have hLf : isL s[0] = false := by simpa using hL
      rw [if_neg hL] at HR
      rw [hLf] at KL
      go_enter Tryd.func23, Tryd.ntmps23
      go_wp2_with fail
      refine (KL.out _).mono ?_
      rintro e w1 ⟨rfl, rfl⟩
      go_wp2
      refine bodyPost_ret (results_tmp2 rfl _ _ _) rfl ?_
      unfold NameA
      rw [HR.out]
      exact ⟨rfl, Below.refl _ _⟩
end Go.Proofs.YtikpbfghdiomgaaDoor
