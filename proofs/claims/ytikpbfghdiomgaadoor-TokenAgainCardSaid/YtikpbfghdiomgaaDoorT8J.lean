/-
  The law TokenAgain over this seat's translation, from the contracts of Scan. Conditions: those that each theorem states.
-/
import Derived.Test.YtikpbfghdiomgaaDoorT8I
namespace Go.Proofs.YtikpbfghdiomgaaDoor
open Go.RowKit Go.Lib Tk
attribute [local go_sem] Oper.semAt_some

/-- What the loop of TokenAgain holds: the text so far, the last place. -/
def AgI (w w2 : World) (L : List Tk.W) (g : Bs) (i : Nat) (ab : ByteArray) (la : Int) (W' : World) : Prop :=
  ab = ⟨((L.take i).flatMap fun u => Tk.txt u ++ g).toArray⟩ ∧ (∀ u : Tk.W, L[i]? = some u → la < (u.p : Int)) ∧ Below w.heap.size w W' ∧ Below w2.heap.size w2 W'
theorem flat_le {f : Tk.W → Bs} {k : Nat} : ∀ l : List Tk.W, (∀ u ∈ l, (f u).length ≤ k) → (l.flatMap f).length ≤ l.length * k
  | [], _ => Nat.zero_le _
  | a :: l, h => by
    have ih := flat_le l fun u hu => h u (List.mem_cons_of_mem _ hu)
    have := h a (List.mem_cons_self ..)
    rw [List.flatMap_cons, List.length_append, List.length_cons, Nat.succ_mul]
    omega

set_option maxHeartbeats 16000000 in
set_option maxRecDepth 100000 in
theorem again_c (C : TkC) (KA : AwakeC) (s : ByteArray) (hmax : s.size ≤ 9223372036854775807) (line : Bool) (w : World) (he : Env8 w) :
    Calls Tryd.prog 3 #[.string s, .bool line] w fun e w' => e = .returned (.bool true) ∧ Below w.heap.size w w' := by
  have mixed : Tryd.prog.follows .mixedOrders = true := by kernel_rfl
  have HE := Lib.hid fun w1 (hb : Below w.heap.size w w1) => he.keep hb
  have KA := Lib.hid fun w1 (hb : Below w.heap.size w w1) => KA w1 (HE.out w1 hb)
  clear he
  by_cases hbig : s.size ≤ 6000
  · have d1 : decide ((s.size : Int) > 6000) = false := decide_eq_false (by omega)
    have d2 : decide (6000 < s.size) = false := decide_eq_false (by omega)
    have KS := Lib.hid fun w1 (hb : Below w.heap.size w w1) => C.scan s hmax w1 (HE.out w1 hb)
    have HC := Lib.hid C
    clear C
    unfold ScP at KS
    obtain ⟨L, n, er, hsc⟩ : ∃ L n er, Tk.scan (bs s) = (L, n, er) := ⟨_, _, _, rfl⟩
    have HL := Lib.hid (show L.length ≤ 16385 from by have := scan_len (bs s); rw [hsc] at this; exact this)
    rw [hsc] at KS
    obtain ⟨z, hz⟩ : ∃ z : Int, (n : Int) = z := ⟨_, rfl⟩
    simp only [hz] at KS
    clear hz
    obtain ⟨m, hm⟩ : ∃ m, L.length = m := ⟨_, rfl⟩
    have HM := Lib.hid hm
    by_cases her : er = 0
    · subst her
      obtain ⟨h1, _, h3, us, hL, hus⟩ := scan_words hsc
      have hrise := scan_rise hsc
      obtain ⟨M, hM'⟩ : ∃ M, us.length = M := ⟨_, rfl⟩
      have HUL := Lib.hid hM'
      have hmu : M + 1 = m := by rw [← hm, hL, List.length_append, ← hM']; rfl
      have HMM := Lib.hid hmu
      have HMX := Lib.hid (show m ≤ 16385 from by have := HL.out; omega)
      have HLU := Lib.hid hL
      have HOK := Lib.hid (show ∀ u ∈ us, WOk u from fun u hu => (hus u hu).1)
      have HT := Lib.hid (show ∀ (i : Nat) (u : Tk.W), L[i]? = some u → ∀ w1, Calls Tryd.prog 9 #[.agg #[.int .i64 (u.kind : Int), .string ⟨u.s.toArray⟩, .int .i64 (u.n : Int), .int .i64 (u.p : Int)]] w1 fun e w' => e = .returned (.string ⟨(Tk.txt u).toArray⟩) ∧ Below w1.heap.size w1 w' from fun i u hu w1 => by
        have hmem := List.mem_of_getElem? hu
        rw [hL, List.mem_append] at hmem
        rcases hmem with h | h
        · have := wok_small (hus u h).1
          exact text8_c u this.1 (by omega) w1
        · obtain rfl : u = ⟨4, [], 0, s.size⟩ := by simpa using h
          exact text8_c _ (Nat.zero_le _) (Nat.zero_le _) w1)
      have HTL := Lib.hid (show ∀ u ∈ L, (Tk.txt u).length ≤ 6000 from fun u hmem => by
        rw [hL, List.mem_append] at hmem
        rcases hmem with h | h
        · have := (hus u h).2
          omega
        · obtain rfl : u = ⟨4, [], 0, s.size⟩ := by simpa using h
          exact Nat.zero_le _)
      have HW := Lib.hid (show ∀ (i : Nat) (u : Tk.W), L[i]? = some u → (i < M → u.kind ≠ 4) ∧ (¬ i < M → u.kind = 4 ∧ u.p = s.size) from fun i u hu => by
        constructor
        · intro h
          rw [hL, List.getElem?_append_left (by omega)] at hu
          exact (wok_pos (hus u (List.mem_of_getElem? hu)).1).2
        · intro h
          rw [hL, List.getElem?_append_right (by omega)] at hu
          have h0 : i - us.length = 0 := by
            have := (List.getElem?_eq_some_iff.1 hu).1
            simp at this
            omega
          rw [h0] at hu
          obtain rfl : (⟨4, [], 0, s.size⟩ : Tk.W) = u := by simpa using hu
          exact ⟨rfl, rfl⟩)
      have HP := Lib.hid (show ∀ (i : Nat) (u : Tk.W), L[i]? = some u → ∀ v : Tk.W, L[i + 1]? = some v → (u.p : Int) < (v.p : Int) from fun i u hu v hv => by
        have h2 := List.pairwise_iff_getElem.1 hrise i (i + 1) (List.getElem?_eq_some_iff.1 hu).1 (List.getElem?_eq_some_iff.1 hv).1 (by omega)
        rw [(List.getElem?_eq_some_iff.1 hu).2, (List.getElem?_eq_some_iff.1 hv).2] at h2
        omega)
      clear h1 h3 hL hus hrise hM' hmu hsc hm
      cases line with
      | false =>
        go_enter Tryd.func3, Tryd.ntmps3
        go_wp2_with fail
        refine (KA.out _ (Below.refl _ _)).mono ?_
        rintro e w1 ⟨rfl, hb1⟩
        have HB1 := Lib.hid hb1
        clear hb1
        go_wp2_with fail
        refine (KS.out _ HB1.out).mono ?_
        rintro e w2 ⟨⟨v, rfl, hr⟩, hb2⟩
        obtain ⟨p, c, rfl, hf⟩ := rowW_form hr
        simp only [HM.out]
        have HF := Lib.hid hf
        have HB2 := Lib.hid (belowT8 HB1.out hb2)
        clear hr hf hb2
        go_wp2
        go_loopw [9, 10, 11] (fun v9 v10 v11 wr => ∃ (i : Nat) (ab : ByteArray) (la : Int), v9 = .string ab ∧ v10 = .int .i64 la ∧ v11 = .int .i64 (i : Int) ∧ i ≤ m ∧ Hid (AgI w w2 L [32] i ab la wr)) (fun _ _ v _ => m - (RowKit.intOf v).toNat)
        case atStart => exact ⟨0, _, _, rfl, rfl, rfl, Nat.zero_le _, Lib.hid ⟨rfl, fun u _ => by omega, HB2.out, Below.refl _ _⟩⟩
        case round =>
          obtain ⟨i, ab, la, rfl, rfl, rfl, hi, HI⟩ := hrel
          by_cases hlt : i < m
          · have hiz : (i : Int) < (m : Int) := by omega
            have hi0 : (0 : Int) ≤ (i : Int) := by omega
            have hri : IntKind.i64.wrap ((i : Int) + 1) = ((i + 1 : Nat) : Int) := by have := HMX.out; rw [IntKind.wrap_i64] <;> omega
            obtain ⟨u, hu⟩ : ∃ u, L[i]? = some u := ⟨_, List.getElem?_eq_getElem (by have := HM.out; omega)⟩
            obtain ⟨g, off, rfl, x0, x1, x2, x3⟩ := (HF.out.keep HI.out.2.2.2).in hu
            have hla := HI.out.2.1 u hu
            have HS := Lib.hid (show ((L.take (i + 1)).flatMap fun u => Tk.txt u ++ ([32] : Bs)) = ((L.take i).flatMap fun u => Tk.txt u ++ ([32] : Bs)) ++ (Tk.txt u ++ ([32] : Bs)) from by rw [take_cW hu, List.flatMap_append]; simp)
            have KT := Lib.hid (HT.out i u hu)
            have HU := Lib.hid (HW.out i u hu)
            have HPN' := HP.out i u hu
            obtain ⟨uk, huk⟩ : ∃ z : Int, (u.kind : Int) = z := ⟨_, rfl⟩
            obtain ⟨ub, hub⟩ : ∃ z : ByteArray, (⟨u.s.toArray⟩ : ByteArray) = z := ⟨_, rfl⟩
            obtain ⟨un, hun⟩ : ∃ z : Int, (u.n : Int) = z := ⟨_, rfl⟩
            obtain ⟨up, hup⟩ : ∃ z : Int, (u.p : Int) = z := ⟨_, rfl⟩
            obtain ⟨tx, htx⟩ : ∃ z : ByteArray, (⟨(Tk.txt u).toArray⟩ : ByteArray) = z := ⟨_, rfl⟩
            have HTX := Lib.hid htx
            have hz1 : tx.size ≤ 6000 := by
              have := HTL.out u (List.mem_of_getElem? hu)
              rw [← htx]
              simpa [ByteArray.size] using this
            have hz2 : ab.size ≤ 17000 * 6003 := by
              have h1 := flat_le (f := fun u => Tk.txt u ++ ([32] : Bs)) (k := 6003) (L.take i) fun u hu => by
                have := HTL.out u (List.mem_of_mem_take hu)
                simp only [List.length_append, List.length_cons, List.length_nil]
                omega
              have h2 : (L.take i).length ≤ 17000 := by rw [List.length_take]; have := HL.out; omega
              have h3 : ab.size = ((L.take i).flatMap fun u => Tk.txt u ++ ([32] : Bs)).length := by rw [HI.out.1]; simp [ByteArray.size]
              rw [h3]
              exact Nat.le_trans h1 (Nat.mul_le_mul_right _ h2)
            have hs1 : ¬ 9223372036854775807 < ab.size + tx.size := by omega
            have hs2 : ¬ 9223372036854775807 < ab.size + tx.size + 1 := by omega
            have hs3 : ¬ 9223372036854775807 < ab.size + tx.size + 3 := by omega
            rw [huk] at x0 KT
            rw [hub] at x1 KT
            rw [hun] at x2 KT
            rw [hup] at x3 KT hla HPN'
            rw [htx] at KT
            have HPN := Lib.hid HPN'
            have dle : decide (up ≤ la) = false := decide_eq_false (by omega)
            have hle : ¬ up ≤ la := by omega
            by_cases hM : i < M
            · have hk4 : uk ≠ 4 := by have := HU.out.1 hM; omega
              have ek : (uk == 4) = false := beq_eq_false_iff_ne.2 hk4
              have ek2 : (uk != 4) = true := by simpa using hk4
              clear hu huk hub hun hup htx hla HPN' hM
              go_wp2_with (first | (go_at_call 9; refine (KT.out _).mono ?_; rintro e w3 ⟨rfl, hb3⟩))
              have HN : Hid (AgI w w2 L [32] (i + 1) (ab ++ tx ++ ⟨#[32]⟩) up w3) := Lib.hid ⟨by rw [HS.out, ← HTX.out, HI.out.1, bapp _ (Tk.txt u), show (⟨#[32]⟩ : ByteArray) = ⟨([32] : Bs).toArray⟩ from rfl, bapp]; simp, HPN.out, belowT8 HI.out.2.2.1 hb3, belowT8 HI.out.2.2.2 hb3⟩
              clear hb3
              go_roundw
              case rel => exact ⟨i + 1, _, _, rfl, rfl, rfl, by omega, HN⟩
              case measure => simp [RowKit.intOf]; omega
  
            · have hk4 : uk = 4 := by have := (HU.out.2 hM).1; omega
              have ek : (uk == 4) = true := by rw [beq_iff_eq]; exact hk4
              have ek2 : (uk != 4) = false := by rw [hk4]; rfl
              have hps : up = (s.size : Int) := by have := (HU.out.2 hM).2; omega
              have ep : (up != (s.size : Int)) = false := by rw [hps]; simp
              have hwm : IntKind.i64.wrap ((m : Int) - 1) = (i : Int) := by have := HMX.out; have := HMM.out; rw [IntKind.wrap_i64] <;> omega
              clear hu huk hub hun hup htx hla HPN' hM hk4 hps
              go_wp2_with (first | (go_at_call 9; refine (KT.out _).mono ?_; rintro e w3 ⟨rfl, hb3⟩))
              have HN : Hid (AgI w w2 L [32] (i + 1) (ab ++ tx ++ ⟨#[32]⟩) up w3) := Lib.hid ⟨by rw [HS.out, ← HTX.out, HI.out.1, bapp _ (Tk.txt u), show (⟨#[32]⟩ : ByteArray) = ⟨([32] : Bs).toArray⟩ from rfl, bapp]; simp, HPN.out, belowT8 HI.out.2.2.1 hb3, belowT8 HI.out.2.2.2 hb3⟩
              clear hb3
              go_roundw
              case rel => exact ⟨i + 1, _, _, rfl, rfl, rfl, by omega, HN⟩
              case measure => simp [RowKit.intOf]; omega
          · have hin : ¬ (i : Int) < (m : Int) := by omega
            have hA := HI.out.1
            rw [List.take_of_length_le (by have := HM.out; omega), HLU.out, again_text _ ⟨rfl, rfl, rfl⟩] at hA
            obtain ⟨A, hAA⟩ : ∃ A : Bs, ((us.flatMap fun u => Tk.txt u ++ ([32] : Bs)) ++ [32]) = A := ⟨_, rfl⟩
            rw [hAA] at hA
            have hab : ab.size = A.length := by rw [hA]; simp [ByteArray.size]
            have hbs : bs ab = A := by rw [hA]; rfl
            obtain ⟨az, haz⟩ : ∃ az : Nat, ab.size = az := ⟨_, rfl⟩
            by_cases hbA : A.length ≤ 16384
            · have d5 : decide ((az : Int) > 16384) = false := decide_eq_false (by omega)
              have d6 : decide (16384 < az) = false := decide_eq_false (by omega)
              obtain ⟨L2, k1, k2, k3⟩ := again_scan (g := [32]) (.inl rfl) HOK.out ⟨4, [], 0, s.size⟩ ⟨rfl, rfl, rfl⟩ (by rw [hAA]; exact hbA)
              rw [hAA, ← hbs] at k1
              have KS2 := Lib.hid fun w1 (hb : Below w.heap.size w w1) => HC.out.scan ab (by omega) w1 (HE.out w1 hb)
              unfold ScP at KS2
              rw [k1] at KS2
              have HK3 := Lib.hid (show ∀ (i : Nat) (u : Tk.W), L[i]? = some u → ∃ v : Tk.W, L2[i]? = some v ∧ v.kind = u.kind ∧ v.s = u.s ∧ v.n = u.n from by rw [HLU.out]; exact k3)
              have HM2 := Lib.hid (show L2.length = m from by have := HMM.out; have := HUL.out; omega)
              have HBE := Lib.hid (And.intro HI.out.2.2.1 HI.out.2.2.2)
              clear HI hA hAA hab hbs hbA k1 k2 k3
              go_wp2_with fail
              refine (KS2.out _ HBE.out.1).mono ?_
              rintro e w4 ⟨⟨v, rfl, hr⟩, hb4⟩
              obtain ⟨p2, c2, rfl, hf2⟩ := rowW_form hr
              simp only [HM2.out]
              have HF2 := Lib.hid hf2
              replace HF := Lib.hid ((HF.out.keep HBE.out.2).keep hb4)
              have HB4 := Lib.hid (belowT8 HBE.out.1 hb4)
              have e5 : ((m : Int) != (m : Int)) = false := by simp
              clear hr hf2 hb4
              go_wp2
              go_loopw [15] (fun v wr => ∃ i : Nat, v = .int .i64 (i : Int) ∧ i ≤ m ∧ Hid (Below w.heap.size w wr ∧ Below w4.heap.size w4 wr)) (fun v _ => m - (RowKit.intOf v).toNat)
              case atStart => exact ⟨0, rfl, Nat.zero_le _, Lib.hid ⟨HB4.out, Below.refl _ _⟩⟩
              case round =>
                obtain ⟨k, rfl, hk, HB⟩ := hrel
                by_cases hkm : k < m
                · have hkz : (k : Int) < (m : Int) := by omega
                  have hk0 : (0 : Int) ≤ (k : Int) := by omega
                  have hri : IntKind.i64.wrap ((k : Int) + 1) = ((k + 1 : Nat) : Int) := by have := HMX.out; rw [IntKind.wrap_i64] <;> omega
                  obtain ⟨u, hu⟩ : ∃ u, L[k]? = some u := ⟨_, List.getElem?_eq_getElem (by have := HM.out; omega)⟩
                  obtain ⟨v, hv, q1, q2, q3⟩ := HK3.out k u hu
                  obtain ⟨g, off, rfl, x0, x1, x2, x3⟩ := (HF.out.keep HB.out.2).in hu
                  obtain ⟨g2, off2, rfl, y0, y1, y2, y3⟩ := (HF2.out.keep HB.out.2).in hv
                  rw [q1] at y0
                  rw [q2] at y1
                  rw [q3] at y2
                  obtain ⟨us2, hus2⟩ : ∃ z : ByteArray, (⟨u.s.toArray⟩ : ByteArray) = z := ⟨_, rfl⟩
                  rw [hus2] at x1 y1
                  clear hus2 hu hv q1 q2 q3 x3 y3
                  go_wp2_with fail
                  go_quiet (fail)
                  have HB5 := Lib.hid (show Below w.heap.size w (wr.drewN nq) ∧ Below w4.heap.size w4 (wr.drewN nq) from ⟨belowT8 HB.out.1 (belowN8 _ _), belowT8 HB.out.2 (belowN8 _ _)⟩)
                  go_wp2
                  go_roundw
                  case rel => exact ⟨k + 1, rfl, by omega, HB5⟩
                  case measure => simp [RowKit.intOf]; omega
                · have hkn : ¬ (k : Int) < (m : Int) := by omega
                  go_wp2
                  go_ret
                  exact ⟨rfl, HB.out.1⟩
            · have d5 : decide ((az : Int) > 16384) = true := decide_eq_true (by omega)
              have d6 : decide (16384 < az) = true := decide_eq_true (by omega)
              have HBE := Lib.hid HI.out.2.2.1
              clear HI hA hAA hab hbs hbA
              go_wp2
              go_ret
              exact ⟨rfl, HBE.out⟩
      | true =>
        go_enter Tryd.func3, Tryd.ntmps3
        go_wp2_with fail
        refine (KA.out _ (Below.refl _ _)).mono ?_
        rintro e w1 ⟨rfl, hb1⟩
        have HB1 := Lib.hid hb1
        clear hb1
        go_wp2_with fail
        refine (KS.out _ HB1.out).mono ?_
        rintro e w2 ⟨⟨v, rfl, hr⟩, hb2⟩
        obtain ⟨p, c, rfl, hf⟩ := rowW_form hr
        simp only [HM.out]
        have HF := Lib.hid hf
        have HB2 := Lib.hid (belowT8 HB1.out hb2)
        clear hr hf hb2
        go_wp2
        go_loopw [9, 10, 11] (fun v9 v10 v11 wr => ∃ (i : Nat) (ab : ByteArray) (la : Int), v9 = .string ab ∧ v10 = .int .i64 la ∧ v11 = .int .i64 (i : Int) ∧ i ≤ m ∧ Hid (AgI w w2 L [35, 120, 10] i ab la wr)) (fun _ _ v _ => m - (RowKit.intOf v).toNat)
        case atStart => exact ⟨0, _, _, rfl, rfl, rfl, Nat.zero_le _, Lib.hid ⟨rfl, fun u _ => by omega, HB2.out, Below.refl _ _⟩⟩
        case round =>
          obtain ⟨i, ab, la, rfl, rfl, rfl, hi, HI⟩ := hrel
          by_cases hlt : i < m
          · have hiz : (i : Int) < (m : Int) := by omega
            have hi0 : (0 : Int) ≤ (i : Int) := by omega
            have hri : IntKind.i64.wrap ((i : Int) + 1) = ((i + 1 : Nat) : Int) := by have := HMX.out; rw [IntKind.wrap_i64] <;> omega
            obtain ⟨u, hu⟩ : ∃ u, L[i]? = some u := ⟨_, List.getElem?_eq_getElem (by have := HM.out; omega)⟩
            obtain ⟨g, off, rfl, x0, x1, x2, x3⟩ := (HF.out.keep HI.out.2.2.2).in hu
            have hla := HI.out.2.1 u hu
            have HS := Lib.hid (show ((L.take (i + 1)).flatMap fun u => Tk.txt u ++ ([35, 120, 10] : Bs)) = ((L.take i).flatMap fun u => Tk.txt u ++ ([35, 120, 10] : Bs)) ++ (Tk.txt u ++ ([35, 120, 10] : Bs)) from by rw [take_cW hu, List.flatMap_append]; simp)
            have KT := Lib.hid (HT.out i u hu)
            have HU := Lib.hid (HW.out i u hu)
            have HPN' := HP.out i u hu
            obtain ⟨uk, huk⟩ : ∃ z : Int, (u.kind : Int) = z := ⟨_, rfl⟩
            obtain ⟨ub, hub⟩ : ∃ z : ByteArray, (⟨u.s.toArray⟩ : ByteArray) = z := ⟨_, rfl⟩
            obtain ⟨un, hun⟩ : ∃ z : Int, (u.n : Int) = z := ⟨_, rfl⟩
            obtain ⟨up, hup⟩ : ∃ z : Int, (u.p : Int) = z := ⟨_, rfl⟩
            obtain ⟨tx, htx⟩ : ∃ z : ByteArray, (⟨(Tk.txt u).toArray⟩ : ByteArray) = z := ⟨_, rfl⟩
            have HTX := Lib.hid htx
            have hz1 : tx.size ≤ 6000 := by
              have := HTL.out u (List.mem_of_getElem? hu)
              rw [← htx]
              simpa [ByteArray.size] using this
            have hz2 : ab.size ≤ 17000 * 6003 := by
              have h1 := flat_le (f := fun u => Tk.txt u ++ ([35, 120, 10] : Bs)) (k := 6003) (L.take i) fun u hu => by
                have := HTL.out u (List.mem_of_mem_take hu)
                simp only [List.length_append, List.length_cons, List.length_nil]
                omega
              have h2 : (L.take i).length ≤ 17000 := by rw [List.length_take]; have := HL.out; omega
              have h3 : ab.size = ((L.take i).flatMap fun u => Tk.txt u ++ ([35, 120, 10] : Bs)).length := by rw [HI.out.1]; simp [ByteArray.size]
              rw [h3]
              exact Nat.le_trans h1 (Nat.mul_le_mul_right _ h2)
            have hs1 : ¬ 9223372036854775807 < ab.size + tx.size := by omega
            have hs2 : ¬ 9223372036854775807 < ab.size + tx.size + 1 := by omega
            have hs3 : ¬ 9223372036854775807 < ab.size + tx.size + 3 := by omega
            rw [huk] at x0 KT
            rw [hub] at x1 KT
            rw [hun] at x2 KT
            rw [hup] at x3 KT hla HPN'
            rw [htx] at KT
            have HPN := Lib.hid HPN'
            have dle : decide (up ≤ la) = false := decide_eq_false (by omega)
            have hle : ¬ up ≤ la := by omega
            by_cases hM : i < M
            · have hk4 : uk ≠ 4 := by have := HU.out.1 hM; omega
              have ek : (uk == 4) = false := beq_eq_false_iff_ne.2 hk4
              have ek2 : (uk != 4) = true := by simpa using hk4
              clear hu huk hub hun hup htx hla HPN' hM
              go_wp2_with (first | (go_at_call 9; refine (KT.out _).mono ?_; rintro e w3 ⟨rfl, hb3⟩))
              have HN : Hid (AgI w w2 L [35, 120, 10] (i + 1) (ab ++ tx ++ ⟨#[35, 120, 10]⟩) up w3) := Lib.hid ⟨by rw [HS.out, ← HTX.out, HI.out.1, bapp _ (Tk.txt u), show (⟨#[35, 120, 10]⟩ : ByteArray) = ⟨([35, 120, 10] : Bs).toArray⟩ from rfl, bapp]; simp, HPN.out, belowT8 HI.out.2.2.1 hb3, belowT8 HI.out.2.2.2 hb3⟩
              clear hb3
              go_roundw
              case rel => exact ⟨i + 1, _, _, rfl, rfl, rfl, by omega, HN⟩
              case measure => simp [RowKit.intOf]; omega
  
            · have hk4 : uk = 4 := by have := (HU.out.2 hM).1; omega
              have ek : (uk == 4) = true := by rw [beq_iff_eq]; exact hk4
              have ek2 : (uk != 4) = false := by rw [hk4]; rfl
              have hps : up = (s.size : Int) := by have := (HU.out.2 hM).2; omega
              have ep : (up != (s.size : Int)) = false := by rw [hps]; simp
              have hwm : IntKind.i64.wrap ((m : Int) - 1) = (i : Int) := by have := HMX.out; have := HMM.out; rw [IntKind.wrap_i64] <;> omega
              clear hu huk hub hun hup htx hla HPN' hM hk4 hps
              go_wp2_with (first | (go_at_call 9; refine (KT.out _).mono ?_; rintro e w3 ⟨rfl, hb3⟩))
              have HN : Hid (AgI w w2 L [35, 120, 10] (i + 1) (ab ++ tx ++ ⟨#[35, 120, 10]⟩) up w3) := Lib.hid ⟨by rw [HS.out, ← HTX.out, HI.out.1, bapp _ (Tk.txt u), show (⟨#[35, 120, 10]⟩ : ByteArray) = ⟨([35, 120, 10] : Bs).toArray⟩ from rfl, bapp]; simp, HPN.out, belowT8 HI.out.2.2.1 hb3, belowT8 HI.out.2.2.2 hb3⟩
              clear hb3
              go_roundw
              case rel => exact ⟨i + 1, _, _, rfl, rfl, rfl, by omega, HN⟩
              case measure => simp [RowKit.intOf]; omega
          · have hin : ¬ (i : Int) < (m : Int) := by omega
            have hA := HI.out.1
            rw [List.take_of_length_le (by have := HM.out; omega), HLU.out, again_text _ ⟨rfl, rfl, rfl⟩] at hA
            obtain ⟨A, hAA⟩ : ∃ A : Bs, ((us.flatMap fun u => Tk.txt u ++ ([35, 120, 10] : Bs)) ++ [35, 120, 10]) = A := ⟨_, rfl⟩
            rw [hAA] at hA
            have hab : ab.size = A.length := by rw [hA]; simp [ByteArray.size]
            have hbs : bs ab = A := by rw [hA]; rfl
            obtain ⟨az, haz⟩ : ∃ az : Nat, ab.size = az := ⟨_, rfl⟩
            by_cases hbA : A.length ≤ 16384
            · have d5 : decide ((az : Int) > 16384) = false := decide_eq_false (by omega)
              have d6 : decide (16384 < az) = false := decide_eq_false (by omega)
              obtain ⟨L2, k1, k2, k3⟩ := again_scan (g := [35, 120, 10]) (.inr rfl) HOK.out ⟨4, [], 0, s.size⟩ ⟨rfl, rfl, rfl⟩ (by rw [hAA]; exact hbA)
              rw [hAA, ← hbs] at k1
              have KS2 := Lib.hid fun w1 (hb : Below w.heap.size w w1) => HC.out.scan ab (by omega) w1 (HE.out w1 hb)
              unfold ScP at KS2
              rw [k1] at KS2
              have HK3 := Lib.hid (show ∀ (i : Nat) (u : Tk.W), L[i]? = some u → ∃ v : Tk.W, L2[i]? = some v ∧ v.kind = u.kind ∧ v.s = u.s ∧ v.n = u.n from by rw [HLU.out]; exact k3)
              have HM2 := Lib.hid (show L2.length = m from by have := HMM.out; have := HUL.out; omega)
              have HBE := Lib.hid (And.intro HI.out.2.2.1 HI.out.2.2.2)
              clear HI hA hAA hab hbs hbA k1 k2 k3
              go_wp2_with fail
              refine (KS2.out _ HBE.out.1).mono ?_
              rintro e w4 ⟨⟨v, rfl, hr⟩, hb4⟩
              obtain ⟨p2, c2, rfl, hf2⟩ := rowW_form hr
              simp only [HM2.out]
              have HF2 := Lib.hid hf2
              replace HF := Lib.hid ((HF.out.keep HBE.out.2).keep hb4)
              have HB4 := Lib.hid (belowT8 HBE.out.1 hb4)
              have e5 : ((m : Int) != (m : Int)) = false := by simp
              clear hr hf2 hb4
              go_wp2
              go_loopw [15] (fun v wr => ∃ i : Nat, v = .int .i64 (i : Int) ∧ i ≤ m ∧ Hid (Below w.heap.size w wr ∧ Below w4.heap.size w4 wr)) (fun v _ => m - (RowKit.intOf v).toNat)
              case atStart => exact ⟨0, rfl, Nat.zero_le _, Lib.hid ⟨HB4.out, Below.refl _ _⟩⟩
              case round =>
                obtain ⟨k, rfl, hk, HB⟩ := hrel
                by_cases hkm : k < m
                · have hkz : (k : Int) < (m : Int) := by omega
                  have hk0 : (0 : Int) ≤ (k : Int) := by omega
                  have hri : IntKind.i64.wrap ((k : Int) + 1) = ((k + 1 : Nat) : Int) := by have := HMX.out; rw [IntKind.wrap_i64] <;> omega
                  obtain ⟨u, hu⟩ : ∃ u, L[k]? = some u := ⟨_, List.getElem?_eq_getElem (by have := HM.out; omega)⟩
                  obtain ⟨v, hv, q1, q2, q3⟩ := HK3.out k u hu
                  obtain ⟨g, off, rfl, x0, x1, x2, x3⟩ := (HF.out.keep HB.out.2).in hu
                  obtain ⟨g2, off2, rfl, y0, y1, y2, y3⟩ := (HF2.out.keep HB.out.2).in hv
                  rw [q1] at y0
                  rw [q2] at y1
                  rw [q3] at y2
                  obtain ⟨us2, hus2⟩ : ∃ z : ByteArray, (⟨u.s.toArray⟩ : ByteArray) = z := ⟨_, rfl⟩
                  rw [hus2] at x1 y1
                  clear hus2 hu hv q1 q2 q3 x3 y3
                  go_wp2_with fail
                  go_quiet (fail)
                  have HB5 := Lib.hid (show Below w.heap.size w (wr.drewN nq) ∧ Below w4.heap.size w4 (wr.drewN nq) from ⟨belowT8 HB.out.1 (belowN8 _ _), belowT8 HB.out.2 (belowN8 _ _)⟩)
                  go_wp2
                  go_roundw
                  case rel => exact ⟨k + 1, rfl, by omega, HB5⟩
                  case measure => simp [RowKit.intOf]; omega
                · have hkn : ¬ (k : Int) < (m : Int) := by omega
                  go_wp2
                  go_ret
                  exact ⟨rfl, HB.out.1⟩
            · have d5 : decide ((az : Int) > 16384) = true := decide_eq_true (by omega)
              have d6 : decide (16384 < az) = true := decide_eq_true (by omega)
              have HBE := Lib.hid HI.out.2.2.1
              clear HI hA hAA hab hbs hbA
              go_wp2
              go_ret
              exact ⟨rfl, HBE.out⟩
    · have hL : L = [] := by
        have := scan_no (l := bs s) (by rw [hsc]; exact her)
        rw [hsc] at this
        exact this
      obtain rfl : m = 0 := by rw [← hm, hL]; rfl
      have e1 : (er != 0) = true := by simpa using her
      clear her hsc hL hm
      go_enter Tryd.func3, Tryd.ntmps3
      go_wp2_with fail
      refine (KA.out _ (Below.refl _ _)).mono ?_
      rintro e w1 ⟨rfl, hb1⟩
      have HB1 := Lib.hid hb1
      clear hb1
      go_wp2_with fail
      refine (KS.out _ HB1.out).mono ?_
      rintro e w2 ⟨⟨v, rfl, hr⟩, hb2⟩
      obtain ⟨p, c, rfl, hf⟩ := rowW_form hr
      simp only [HM.out]
      have HF := Lib.hid hf
      have HB2 := Lib.hid (belowT8 HB1.out hb2)
      clear hr hf hb2
      go_wp2
      go_ret
      exact ⟨rfl, HB2.out⟩
  · have d1 : decide ((s.size : Int) > 6000) = true := decide_eq_true (by omega)
    have d2 : decide (6000 < s.size) = true := decide_eq_true (by omega)
    go_enter Tryd.func3, Tryd.ntmps3
    go_wp2_with fail
    refine (KA.out _ (Below.refl _ _)).mono ?_
    rintro e w1 ⟨rfl, hb1⟩
    have HB1 := Lib.hid hb1
    clear hb1
    go_wp2_with fail
    refine (KA.out _ HB1.out).mono ?_
    rintro e w2 ⟨rfl, hb2⟩
    have HB2 := Lib.hid (belowT8 HB1.out hb2)
    clear hb2
    go_wp2
    go_ret
    exact ⟨rfl, HB2.out⟩
end Go.Proofs.YtikpbfghdiomgaaDoor
