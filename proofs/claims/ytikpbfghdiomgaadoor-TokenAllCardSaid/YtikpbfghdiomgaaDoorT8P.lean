/-
  token's number over this seat's translation; what strconv.Atoi answers of digits. Conditions: those that each theorem states.
-/
import Derived.Test.YtikpbfghdiomgaaDoorT8O
import Derived.Test.YtikpbfghdiomgaaDoorShelfD
import Derived.Lib.AtoiAllCases
namespace Go.Proofs.YtikpbfghdiomgaaDoor
open Go.RowKit Go.Lib Tk

theorem fold_ge : ∀ (l : Bs) (a : Nat), a ≤ l.foldl (fun n c => n * 10 + (c.toNat - 48)) a
  | [], _ => Nat.le_refl _
  | c :: l, a => by
    have := fold_ge l (a * 10 + (c.toNat - 48))
    rw [List.foldl_cons]
    omega
theorem parse_digits : ∀ (l : Bs) (a : Nat), (∀ c ∈ l, isD c = true) → a < 18446744073709551616 → Lib.parseUint10 a l = if l.foldl (fun n c => n * 10 + (c.toNat - 48)) a < 18446744073709551616 then .ok (l.foldl (fun n c => n * 10 + (c.toNat - 48)) a) else .range
  | [], a, _, h => by
    rw [List.foldl_nil, if_pos h]
    rfl
  | c :: l, a, hd, h => by
    have hc := isD_iff.1 (hd c (List.mem_cons_self ..))
    have hg := fold_ge l (a * 10 + (c.toNat - 48))
    rw [Lib.parseUint10, if_pos hc, List.foldl_cons]
    by_cases h1 : 1844674407370955162 ≤ a
    · rw [if_pos h1, if_neg (by omega)]
    · rw [if_neg h1]
      by_cases h2 : 18446744073709551616 ≤ a * 10 + (c.toNat - 48)
      · rw [if_pos h2, if_neg (by omega)]
      · rw [if_neg h2]
        exact parse_digits l _ (fun d hd' => hd d (List.mem_cons_of_mem _ hd')) (by omega)
theorem atoi_digits {l : Bs} (h0 : l ≠ []) (hd : ∀ c ∈ l, isD c = true) : Lib.atoiAll l = if 9223372036854775807 < numV l then .range else .ok (numV l : Int) := by
  match l with
  | [] => exact absurd rfl h0
  | c :: r =>
    have hc := isD_iff.1 (hd c (List.mem_cons_self ..))
    have hp := parse_digits (c :: r) 0 hd (by decide)
    have hn : (c :: r).foldl (fun n c => n * 10 + (c.toNat - 48)) 0 = numV (c :: r) := rfl
    rw [hn] at hp
    have hm : Lib.parseMag (c :: r) = Lib.parseUint10 0 (c :: r) := by
      unfold Lib.parseMag
      rw [if_neg h0]
    rw [Lib.atoiAll_plain c r (by omega) (by omega), hm, hp]
    by_cases h1 : 9223372036854775807 < numV (c :: r)
    · rw [if_pos h1]
      by_cases h2 : numV (c :: r) < 18446744073709551616
      · rw [if_pos h2]
        simp only [Lib.signless]
        rw [if_pos (by omega)]
      · rw [if_neg h2]
        rfl
    · rw [if_neg h1, if_pos (by omega)]
      simp only [Lib.signless]
      rw [if_neg (by omega)]
theorem atoi8_ok (s : ByteArray) (hs : s.size ≤ 100000) (h0 : bs s ≠ []) (hd : ∀ c ∈ bs s, isD c = true) (hn : ¬ 9223372036854775807 < numV (bs s)) (w : World) :
    Calls Tryd.prog 29 #[.string s] w fun e w' => e = .returned (.tuple #[.int .i64 (numV (bs s) : Int), .nilIface]) ∧ Below w.heap.size w w' := by
  refine (Tryd.strconv_Atoi_ok s (by omega) _ ((atoi_digits h0 hd).trans (if_neg hn)) w).mono ?_
  rintro e w' ⟨rfl, rfl | ⟨t, rfl⟩⟩
  · exact ⟨rfl, Below.refl _ _⟩
  · exact ⟨rfl, Lib.bytesWorld_below _ _ _⟩
def AtoiNo8 (w : World) (e : Ending) (w' : World) : Prop := ∃ (x : Int) (N : Nat), e = .returned (.tuple #[.int .i64 x, .iface 65 (.pointer (some ⟨N, 0, none⟩))]) ∧ Below w.heap.size w w'
theorem atoi8_no (s : ByteArray) (hs : s.size ≤ 100000) (h0 : bs s ≠ []) (hd : ∀ c ∈ bs s, isD c = true) (hn : 9223372036854775807 < numV (bs s)) (w : World) (he : Env8 w) :
    Calls Tryd.prog 29 #[.string s] w (AtoiNo8 w) := by
  obtain ⟨_, ev, h3, k3⟩ := he
  refine (Tryd.strconv_Atoi_range s (by omega) ((atoi_digits h0 hd).trans (if_pos hn)) ev w h3 k3).mono ?_
  rintro e w' ⟨N, rfl, _, _, hb⟩
  exact ⟨_, N, rfl, hb⟩

/-- What number answers, of a text that begins with a digit. -/
def numR (l : Bs) : Nat × Nat × Int :=
  if l.head? = some 48 ∧ 1 < (l.takeWhile isD).length then (0, 0, 6) else if 9223372036854775807 < numV (l.takeWhile isD) then (0, 0, 2) else (numV (l.takeWhile isD), (l.takeWhile isD).length, 0)
def NumA (s : ByteArray) (w : World) (e : Ending) (w' : World) : Prop := e = .returned (.tuple #[.int .i64 ((numR (bs s)).1 : Int), .int .i64 ((numR (bs s)).2.1 : Int), .int .i64 (numR (bs s)).2.2]) ∧ Below w.heap.size w w'
theorem numR_bs {s : ByteArray} (h : 0 < s.size) : numR (bs s) = if s[0].toNat = 48 ∧ 1 < ((bs s).takeWhile isD).length then (0, 0, 6) else if 9223372036854775807 < numV ((bs s).takeWhile isD) then (0, 0, 2) else (numV ((bs s).takeWhile isD), ((bs s).takeWhile isD).length, 0) := by
  have h1 := bs_drop s h
  rw [List.drop_zero] at h1
  have h2 : ((bs s).head? = some 48) ↔ s[0].toNat = 48 := by
    rw [h1, List.head?_cons, Option.some_inj, ← UInt8.toNat_inj]
    exact Iff.rfl
  unfold numR
  rw [← h1] at *
  simp only [h2]
set_option maxHeartbeats 4000000 in
theorem pnumber_c (s : ByteArray) (h0 : 0 < s.size) (hd : isD s[0] = true) (hs : s.size ≤ 100000) (w : World) (he : Env8 w) : Calls Tryd.prog 25 #[.string s] w fun e w' => NumA s w e w' := by
  have HE := Lib.hid he
  clear he
  have hz : (0 : Int) < (s.size : Int) := by omega
  have HR := Lib.hid (numR_bs h0)
  have KS := Lib.hid (stretch_digit_c s hs)
  have h1 := bs_drop s h0
  rw [List.drop_zero] at h1
  have hpos : 0 < ((bs s).takeWhile isD).length := by rw [h1]; exact tw_pos hd
  obtain ⟨m, hm⟩ : ∃ m, ((bs s).takeWhile isD).length = m := ⟨_, rfl⟩
  have hml : m ≤ s.size := by rw [← hm, ← bs_len]; exact tw_le _
  have hT : bs (s.extract 0 m) = (bs s).takeWhile isD := by rw [bs_to, ← hm]; exact tw_take _
  have hne : bs (s.extract 0 m) ≠ [] := by rw [hT]; intro e; rw [e] at hpos; exact absurd hpos (Nat.lt_irrefl _)
  have hall : ∀ c ∈ bs (s.extract 0 m), isD c = true := by rw [hT]; exact tw_all _
  have hes : (s.extract 0 m).size ≤ 100000 := by rw [ext_size s hml]; omega
  rw [hm] at KS HR hpos
  obtain ⟨x, hx⟩ : ∃ x : Int, ((s[0].toNat : Nat) : Int) = x := ⟨_, rfl⟩
  have hmz : (m : Int) ≤ (s.size : Int) := by omega
  have hm0 : (0 : Int) ≤ (m : Int) := by omega
  clear h1 hm hd
  by_cases hz1 : x = 48 ∧ 1 < m
  · rw [if_pos ⟨by omega, hz1.2⟩] at HR
    have e48 : (x == 48) = true := by rw [beq_iff_eq]; exact hz1.1
    have e1 : decide ((m : Int) > 1) = true := decide_eq_true (by omega)
    have e2 : decide (1 < m) = true := decide_eq_true hz1.2
    clear hne hall hz1
    go_enter Tryd.func25, Tryd.ntmps25
    go_wp2_with fail
    refine (KS.out _).mono ?_
    rintro e w1 ⟨rfl, rfl⟩
    go_wp2
    refine bodyPost_ret (v := .tuple #[.int .i64 0, .int .i64 0, .int .i64 6]) (by simp [results, Tryd.results25, go_sem]) rfl ?_
    unfold NumA
    rw [HR.out]
    exact ⟨rfl, Below.refl _ _⟩
  · rw [if_neg (fun h => hz1 ⟨by omega, h.2⟩), ← hT] at HR
    have HZ := Lib.hid (show (1 < m → x ≠ 48) from fun h e => hz1 ⟨e, h⟩)
    clear hz1
    by_cases hn : 9223372036854775807 < numV (bs (s.extract 0 m))
    · rw [if_pos hn] at HR
      have KA := Lib.hid (fun w he => atoi8_no (s.extract 0 m) hes hne hall hn w he)
      clear hne hall hn hT
      by_cases h1 : 1 < m
      · have e48 : (x == 48) = false := beq_eq_false_iff_ne.2 (HZ.out h1)
        have e1 : decide ((m : Int) > 1) = true := decide_eq_true (by omega)
        have e2 : decide (1 < m) = true := decide_eq_true h1
        go_enter Tryd.func25, Tryd.ntmps25
        go_wp2_with fail
        refine (KS.out _).mono ?_
        rintro e w1 ⟨rfl, rfl⟩
        go_wp2_with fail
        refine (KA.out _ HE.out).mono ?_
        rintro e w1 ⟨z, N, rfl, hb⟩
        have HB := Lib.hid hb
        clear hb
        go_wp2
        refine bodyPost_ret (v := .tuple #[.int .i64 0, .int .i64 0, .int .i64 2]) (by simp [results, Tryd.results25, go_sem]) rfl ?_
        unfold NumA
        rw [HR.out]
        exact ⟨rfl, HB.out⟩
      · have e1 : decide ((m : Int) > 1) = false := decide_eq_false (by omega)
        have e2 : decide (1 < m) = false := decide_eq_false h1
        go_enter Tryd.func25, Tryd.ntmps25
        go_wp2_with fail
        refine (KS.out _).mono ?_
        rintro e w1 ⟨rfl, rfl⟩
        go_wp2_with fail
        refine (KA.out _ HE.out).mono ?_
        rintro e w1 ⟨z, N, rfl, hb⟩
        have HB := Lib.hid hb
        clear hb
        go_wp2
        refine bodyPost_ret (v := .tuple #[.int .i64 0, .int .i64 0, .int .i64 2]) (by simp [results, Tryd.results25, go_sem]) rfl ?_
        unfold NumA
        rw [HR.out]
        exact ⟨rfl, HB.out⟩
    · rw [if_neg hn] at HR
      have KA := Lib.hid (fun w => atoi8_ok (s.extract 0 m) hes hne hall hn w)
      obtain ⟨n, hnn⟩ : ∃ n, numV (bs (s.extract 0 m)) = n := ⟨_, rfl⟩
      rw [hnn] at HR KA
      clear hne hall hn hT hnn
      by_cases h1 : 1 < m
      · have e48 : (x == 48) = false := beq_eq_false_iff_ne.2 (HZ.out h1)
        have e1 : decide ((m : Int) > 1) = true := decide_eq_true (by omega)
        have e2 : decide (1 < m) = true := decide_eq_true h1
        go_enter Tryd.func25, Tryd.ntmps25
        go_wp2_with fail
        refine (KS.out _).mono ?_
        rintro e w1 ⟨rfl, rfl⟩
        go_wp2_with fail
        refine (KA.out _).mono ?_
        rintro e w1 ⟨rfl, hb⟩
        have HB := Lib.hid hb
        clear hb
        go_wp2
        refine bodyPost_ret (v := .tuple #[.int .i64 (n : Int), .int .i64 (m : Int), .int .i64 0]) (by simp [results, Tryd.results25, go_sem]) rfl ?_
        unfold NumA
        rw [HR.out]
        exact ⟨rfl, HB.out⟩
      · have e1 : decide ((m : Int) > 1) = false := decide_eq_false (by omega)
        have e2 : decide (1 < m) = false := decide_eq_false h1
        go_enter Tryd.func25, Tryd.ntmps25
        go_wp2_with fail
        refine (KS.out _).mono ?_
        rintro e w1 ⟨rfl, rfl⟩
        go_wp2_with fail
        refine (KA.out _).mono ?_
        rintro e w1 ⟨rfl, hb⟩
        have HB := Lib.hid hb
        clear hb
        go_wp2
        refine bodyPost_ret (v := .tuple #[.int .i64 (n : Int), .int .i64 (m : Int), .int .i64 0]) (by simp [results, Tryd.results25, go_sem]) rfl ?_
        unfold NumA
        rw [HR.out]
        exact ⟨rfl, HB.out⟩
end Go.Proofs.YtikpbfghdiomgaaDoor
