/-
  token's word over this seat's translation. Conditions: those that each theorem states.
-/
import Derived.Test.YtikpbfghdiomgaaDoorT8P
import Derived.RangeFuncRecord
namespace Go.Proofs.YtikpbfghdiomgaaDoor
open Go.RowKit Go.Lib Tk

/-- What word answers: as Tk.word has it, and the End where nothing is left. -/
def wordX (l : Bs) : Int × Nat × Bs × Nat × Nat := if l = [] then (0, 4, [], 0, 0) else Tk.word l
def tokV (u : Tk.W) : Value := .agg #[.int .i64 (u.kind : Int), .string ⟨u.s.toArray⟩, .int .i64 (u.n : Int), .int .i64 (u.p : Int)]
def WordA (s : ByteArray) (w : World) (e : Ending) (w' : World) : Prop := ∃ (u : Tk.W) (k : Nat), e = .returned (.tuple #[tokV u, .int .i64 (k : Int), .int .i64 (wordX (bs s)).1]) ∧ u.p = 0 ∧ ((wordX (bs s)).1 = 0 → u = ⟨(wordX (bs s)).2.1, (wordX (bs s)).2.2.1, (wordX (bs s)).2.2.2.1, 0⟩ ∧ k = (wordX (bs s)).2.2.2.2) ∧ Below w.heap.size w w'
theorem wordX_cons {s : ByteArray} (h : 0 < s.size) : wordX (bs s) = Tk.word (s[0] :: (bs s).drop 1) := by
  have h1 := bs_drop s h
  rw [List.drop_zero] at h1
  unfold wordX
  rw [if_neg (by rw [h1]; exact List.cons_ne_nil _ _)]
  exact congrArg Tk.word h1
theorem nameR_len (l : Bs) : (nameR l).1.length ≤ 16 := by
  unfold nameR
  split
  · decide
  · split
    · split
      · exact Nat.zero_le _
      · show (List.takeWhile isN _).length ≤ 16
        omega
    · exact Nat.zero_le _
theorem wordX_L {s : ByteArray} (h : 0 < s.size) (hL : isL s[0] = true) {t : Bs} {c : Int} (hn : nameR (bs s) = (t, c)) : (wordX (bs s)).1 = c ∧ (c = 0 → wordX (bs s) = (0, 0, t, 0, t.length)) := by
  have h1 := bs_drop s h
  rw [List.drop_zero] at h1
  rw [nameR_bs h, if_pos hL] at hn
  rw [wordX_cons h, word_L hL, ← h1]
  by_cases h16 : 16 < ((bs s).takeWhile isN).length
  · rw [if_pos h16] at hn ⊢
    cases hn
    exact ⟨rfl, fun h => absurd h (by decide)⟩
  · rw [if_neg h16] at hn ⊢
    cases hn
    exact ⟨rfl, fun _ => rfl⟩
theorem wordX_D {s : ByteArray} (h : 0 < s.size) (hL : isL s[0] = false) (hD : isD s[0] = true) {n k : Nat} {c : Int} (hn : numR (bs s) = (n, k, c)) : (wordX (bs s)).1 = c ∧ (c = 0 → wordX (bs s) = (0, 1, [], n, k)) := by
  have h1 := bs_drop s h
  rw [List.drop_zero] at h1
  have hd := isD_iff.1 hD
  rw [numR_bs h] at hn
  rw [wordX_cons h, word_D hL (by omega) hD, ← h1]
  by_cases h6 : s[0].toNat = 48 ∧ 1 < ((bs s).takeWhile isD).length
  · rw [if_pos h6] at hn ⊢
    cases hn
    exact ⟨rfl, fun h => absurd h (by decide)⟩
  · rw [if_neg h6] at hn ⊢
    by_cases h7 : 9223372036854775807 < numV ((bs s).takeWhile isD)
    · rw [if_pos h7] at hn ⊢
      cases hn
      exact ⟨rfl, fun h => absurd h (by decide)⟩
    · rw [if_neg h7] at hn ⊢
      cases hn
      exact ⟨rfl, fun _ => rfl⟩
theorem wordX_Q {s : ByteArray} (h : 0 < s.size) (h39 : s[0].toNat = 39) {t : Bs} {c : Int} (hn : nameR (bs (s.extract 1 s.size)) = (t, c)) : (wordX (bs s)).1 = c ∧ (c = 0 → wordX (bs s) = (0, 2, t, 0, 1 + t.length)) := by
  rw [bs_from] at hn
  rw [wordX_cons h]
  match hd : (bs s).drop 1 with
  | [] =>
    rw [hd] at hn
    rw [word_Q0 h39]
    cases hn
    exact ⟨rfl, fun h => absurd h (by decide)⟩
  | d :: l =>
    rw [hd] at hn
    rw [word_Q h39]
    have hr : nameR (d :: l) = if isL d = true then (if 16 < ((d :: l).takeWhile isN).length then ([], 9) else ((d :: l).takeWhile isN, 0)) else ([], 5) := rfl
    rw [hr] at hn
    by_cases hL : isL d = true
    · rw [if_pos hL] at hn ⊢
      by_cases h16 : 16 < ((d :: l).takeWhile isN).length
      · rw [if_pos h16] at hn ⊢
        cases hn
        exact ⟨rfl, fun h => absurd h (by decide)⟩
      · rw [if_neg h16] at hn ⊢
        cases hn
        exact ⟨rfl, fun _ => by rw [Nat.add_comm 1]⟩
    · rw [if_neg hL] at hn ⊢
      cases hn
      exact ⟨rfl, fun h => absurd h (by decide)⟩
theorem wordX_M {s : ByteArray} (h : 0 < s.size) (hL : isL s[0] = false) (hD : isD s[0] = false) (h39 : s[0].toNat ≠ 39) {t : Bs} {c : Int} (hn : markR (bs s) = (t, c)) : (wordX (bs s)).1 = c ∧ (c = 0 → wordX (bs s) = (0, 3, t, 0, t.length)) := by
  have h1 := bs_drop s h
  rw [List.drop_zero] at h1
  rw [wordX_cons h, word_M hL h39 hD, ← h1]
  unfold markR at hn
  by_cases h0 : markLen (bs s) = 0
  · rw [if_pos h0] at hn ⊢
    cases hn
    exact ⟨rfl, fun h => absurd h (by decide)⟩
  · rw [if_neg h0] at hn ⊢
    cases hn
    exact ⟨rfl, fun _ => by rw [List.length_take, Nat.min_eq_left (mark_le _)]⟩

abbrev box8 (a b c d : Value) : Obj := .cells #[a, b, c, d] 28 (0, 0)
abbrev zero8 : Obj := box8 (.int .i64 0) (.string ⟨#[]⟩) (.int .i64 0) (.int .i64 0)
/-- The cells of a token in a box of its own. -/
theorem cells8 {W : World} {b : Nat} {x0 x1 x2 x3 : Value} (h : W.heap[b]? = some (box8 x0 x1 x2 x3)) : W.cell? ⟨b, 0, none⟩ = some x0 ∧ W.cell? ⟨b, 1, none⟩ = some x1 ∧ W.cell? ⟨b, 2, none⟩ = some x2 ∧ W.cell? ⟨b, 3, none⟩ = some x3 ∧ W.frozen? ⟨b, 0, none⟩ = false ∧ W.frozen? ⟨b, 1, none⟩ = false ∧ W.frozen? ⟨b, 2, none⟩ = false ∧ W.frozen? ⟨b, 3, none⟩ = false :=
  ⟨(by unfold World.cell?; rw [h]; rfl), (by unfold World.cell?; rw [h]; rfl), (by unfold World.cell?; rw [h]; rfl), (by unfold World.cell?; rw [h]; rfl), frozen_of_row _ b 0 _ _ h, frozen_of_row _ b 1 _ _ h, frozen_of_row _ b 2 _ _ h, frozen_of_row _ b 3 _ _ h⟩
/-- A token stored into a box of its own. -/
theorem put8 {w V : World} {b : Nat} {x0 x1 x2 x3 : Value} (h : V.heap[b]? = some (box8 x0 x1 x2 x3)) (hB : w.heap.size ≤ b) (hb : Below w.heap.size w V) (y0 y1 y2 y3 : Value) :
    ((((V.setCell ⟨b, 0, none⟩ y0).setCell ⟨b, 1, none⟩ y1).setCell ⟨b, 2, none⟩ y2).setCell ⟨b, 3, none⟩ y3).heap[b]? = some (box8 y0 y1 y2 y3) ∧ Below w.heap.size w ((((V.setCell ⟨b, 0, none⟩ y0).setCell ⟨b, 1, none⟩ y1).setCell ⟨b, 2, none⟩ y2).setCell ⟨b, 3, none⟩ y3) :=
  ⟨heap_setCell_same _ b 3 _ _ y3 (heap_setCell_same _ b 2 _ _ y2 (heap_setCell_same _ b 1 _ _ y1 (heap_setCell_same _ b 0 _ _ y0 h))), (((hb.setCell hB _).setCell hB _).setCell hB _).setCell hB _⟩
theorem new8 (w : World) {V : World} (h : Below (w.alloc zero8).heap.size (w.alloc zero8) V) : V.heap[w.heap.size]? = some zero8 ∧ Below w.heap.size w V :=
  ⟨(h.block _ (by simp)).trans (World.alloc_heap_new w _), belowT8 ((Below.refl w.heap.size w).alloc (Nat.le_refl _) _) h⟩

set_option maxHeartbeats 4000000 in
set_option maxRecDepth 100000 in
theorem pword0_c (w : World) : Calls Tryd.prog 19 #[.string ⟨#[]⟩] w fun e w' => e = .returned (.tuple #[.agg #[.int .i64 4, .string ⟨#[]⟩, .int .i64 0, .int .i64 0], .int .i64 0, .int .i64 0]) ∧ Below w.heap.size w w' := by
  go_enter Tryd.func19, Tryd.ntmps19
  go_wp2
  refine bodyPost_ret (v := .tuple #[.agg #[.int .i64 4, .string ⟨#[]⟩, .int .i64 0, .int .i64 0], .int .i64 0, .int .i64 0]) (by simp [results, Tryd.results19, go_sem]) rfl ?_
  exact ⟨rfl, (Below.refl w.heap.size w).alloc (Nat.le_refl _) _⟩
set_option maxHeartbeats 8000000 in
set_option maxRecDepth 100000 in
theorem pword_c (s : ByteArray) (hpos : 0 < s.size) (hs : s.size ≤ 100000) (w : World) (he : Env8 w) : Calls Tryd.prog 19 #[.string s] w fun e w' => WordA s w e w' := by
  have HE := Lib.hid fun V (hV : Below (w.alloc zero8).heap.size (w.alloc zero8) V) => he.keep (new8 w hV).2
  clear he
  have hz : (0 : Int) < (s.size : Int) := by omega
  have hsz : s.size ≠ 0 := by omega
  have hne : (s.toList == ([] : List UInt8)) = false := by rw [toList_bs, beq_eq_false_iff_ne]; intro h; have := congrArg List.length h; rw [bs_len] at this; exact hsz this
  have hne2 : ¬ s.toList = [] := by rw [toList_bs]; intro h; have := congrArg List.length h; rw [bs_len] at this; exact hsz this
  clear hsz
  obtain ⟨x, hx⟩ : ∃ x : Int, ((s[0].toNat : Nat) : Int) = x := ⟨_, rfl⟩
  have KL := Lib.hid (show ∀ w1, Calls Tryd.prog 22 #[.int .u8 x] w1 fun e w' => e = .returned (.bool (isL s[0])) ∧ w1 = w' from fun w1 => by rw [← hx]; exact pletter_c _ w1)
  have KD := Lib.hid (show ∀ w1, Calls Tryd.prog 24 #[.int .u8 x] w1 fun e w' => e = .returned (.bool (isD s[0])) ∧ w1 = w' from fun w1 => by rw [← hx]; exact pdigit_c _ w1)
  by_cases hL : isL s[0] = true
  · as_aux_lemma =>
      obtain ⟨t, c, hn⟩ : ∃ t c, nameR (bs s) = (t, c) := ⟨_, _, rfl⟩
      have KN := Lib.hid (pname_c s hs)
      unfold NameA at KN
      have HW := Lib.hid (wordX_L hpos hL hn)
      rw [hn] at KN
      rw [hL] at KL
      obtain ⟨T, hT⟩ : ∃ T : ByteArray, (⟨t.toArray⟩ : ByteArray) = T := ⟨_, rfl⟩
      have HT := Lib.hid (And.intro hT (show T.size = t.length from by rw [← hT, size_of]))
      simp only [hT] at KN
      clear hL hn hT
      go_enter Tryd.func19, Tryd.ntmps19
      go_wp2_with fail
      refine (KL.out _).mono ?_
      rintro e w1 ⟨rfl, rfl⟩
      go_wp2_with fail
      refine (KN.out _).mono ?_
      rintro e V ⟨rfl, hb⟩
      have HV := Lib.hid (new8 w hb)
      clear hb
      obtain ⟨c0, c1, c2, c3, f0, f1, f2, f3⟩ := cells8 HV.out.1
      go_wp2
      obtain ⟨hh, hbb⟩ := put8 HV.out.1 (Nat.le_refl _) HV.out.2 (.int .i64 0) (.string T) (.int .i64 0) (.int .i64 0)
      obtain ⟨r0, r1, r2, r3, _, _, _, _⟩ := cells8 hh
      refine bodyPost_ret (v := .tuple #[.agg #[.int .i64 0, .string T, .int .i64 0, .int .i64 0], .int .i64 (T.size : Int), .int .i64 c]) (by simp [results, Tryd.results19, go_sem, r0, r1, r2, r3]) rfl ?_
      exact ⟨⟨0, t, 0, 0⟩, T.size, by rw [HW.out.1, ← HT.out.1]; rfl, rfl, fun h => ⟨by rw [HW.out.2 (HW.out.1.symm.trans h)], by rw [HW.out.2 (HW.out.1.symm.trans h), HT.out.2]⟩, hbb⟩
  · have hLf : isL s[0] = false := by simpa using hL
    rw [hLf] at KL
    by_cases hD : isD s[0] = true
    · as_aux_lemma =>
        obtain ⟨n, k, c, hn⟩ : ∃ n k c, numR (bs s) = (n, k, c) := ⟨_, _, _, rfl⟩
        have KN := Lib.hid (pnumber_c s hpos hD hs)
        unfold NumA at KN
        have HW := Lib.hid (wordX_D hpos hLf hD hn)
        rw [hn] at KN
        rw [hD] at KD
        clear hL hLf hD hn
        go_enter Tryd.func19, Tryd.ntmps19
        go_wp2_with fail
        refine (KL.out _).mono ?_
        rintro e w1 ⟨rfl, rfl⟩
        go_wp2_with fail
        refine (KD.out _).mono ?_
        rintro e w1 ⟨rfl, rfl⟩
        go_wp2_with fail
        refine (KN.out _ (HE.out _ (Below.refl _ _))).mono ?_
        rintro e V ⟨rfl, hb⟩
        have HV := Lib.hid (new8 w hb)
        clear hb
        obtain ⟨c0, c1, c2, c3, f0, f1, f2, f3⟩ := cells8 HV.out.1
        go_wp2
        obtain ⟨hh, hbb⟩ := put8 HV.out.1 (Nat.le_refl _) HV.out.2 (.int .i64 1) (.string ⟨#[]⟩) (.int .i64 (n : Int)) (.int .i64 0)
        obtain ⟨r0, r1, r2, r3, _, _, _, _⟩ := cells8 hh
        refine bodyPost_ret (v := .tuple #[.agg #[.int .i64 1, .string ⟨#[]⟩, .int .i64 (n : Int), .int .i64 0], .int .i64 (k : Int), .int .i64 c]) (by simp [results, Tryd.results19, go_sem, r0, r1, r2, r3]) rfl ?_
        exact ⟨⟨1, [], n, 0⟩, k, by rw [HW.out.1]; rfl, rfl, fun h => ⟨by rw [HW.out.2 (HW.out.1.symm.trans h)], by rw [HW.out.2 (HW.out.1.symm.trans h)]⟩, hbb⟩
    · have hDf : isD s[0] = false := by simpa using hD
      rw [hDf] at KD
      by_cases h39 : x = 39
      · as_aux_lemma =>
          have e39 : (x == 39) = true := by rw [beq_iff_eq]; exact h39
          obtain ⟨t, c, hn⟩ : ∃ t c, nameR (bs (s.extract 1 s.size)) = (t, c) := ⟨_, _, rfl⟩
          have KN := Lib.hid (pname_c (s.extract 1 s.size) (by rw [ext_size s (Nat.le_refl _)]; omega))
          unfold NameA at KN
          have HW := Lib.hid (wordX_Q hpos (by omega) hn)
          have hlen : t.length ≤ 16 := by have := nameR_len (bs (s.extract 1 s.size)); rw [hn] at this; exact this
          rw [hn] at KN
          obtain ⟨T, hT⟩ : ∃ T : ByteArray, (⟨t.toArray⟩ : ByteArray) = T := ⟨_, rfl⟩
          have HT := Lib.hid (And.intro hT (show T.size = t.length from by rw [← hT, size_of]))
          have hsz1 : (1 : Int) ≤ (s.size : Int) := by omega
          have hwr : IntKind.i64.wrap (1 + (T.size : Int)) = ((1 + T.size : Nat) : Int) := by
            have := HT.out.2
            rw [IntKind.wrap_i64] <;> omega
          obtain ⟨K, hK⟩ : ∃ K, 1 + T.size = K := ⟨_, rfl⟩
          have HK := Lib.hid hK
          rw [hK] at hwr
          simp only [hT] at KN
          clear hL hLf hD hDf h39 hn hT hlen hK
          go_enter Tryd.func19, Tryd.ntmps19
          go_wp2_with fail
          refine (KL.out _).mono ?_
          rintro e w1 ⟨rfl, rfl⟩
          go_wp2_with fail
          refine (KD.out _).mono ?_
          rintro e w1 ⟨rfl, rfl⟩
          go_wp2_with fail
          refine (KN.out _).mono ?_
          rintro e V ⟨rfl, hb⟩
          have HV := Lib.hid (new8 w hb)
          clear hb
          obtain ⟨c0, c1, c2, c3, f0, f1, f2, f3⟩ := cells8 HV.out.1
          go_wp2
          obtain ⟨hh, hbb⟩ := put8 HV.out.1 (Nat.le_refl _) HV.out.2 (.int .i64 2) (.string T) (.int .i64 0) (.int .i64 0)
          obtain ⟨r0, r1, r2, r3, _, _, _, _⟩ := cells8 hh
          refine bodyPost_ret (v := .tuple #[.agg #[.int .i64 2, .string T, .int .i64 0, .int .i64 0], .int .i64 (K : Int), .int .i64 c]) (by simp [results, Tryd.results19, go_sem, r0, r1, r2, r3]) rfl ?_
          exact ⟨⟨2, t, 0, 0⟩, K, by rw [HW.out.1, ← HT.out.1]; rfl, rfl, fun h => ⟨by rw [HW.out.2 (HW.out.1.symm.trans h)], by rw [HW.out.2 (HW.out.1.symm.trans h), ← HT.out.2]; exact HK.out.symm⟩, hbb⟩
      · as_aux_lemma =>
          have e39 : (x == 39) = false := beq_eq_false_iff_ne.2 h39
          obtain ⟨t, c, hn⟩ : ∃ t c, markR (bs s) = (t, c) := ⟨_, _, rfl⟩
          have KN := Lib.hid (pmark_c s)
          unfold MarkA at KN
          have HW := Lib.hid (wordX_M hpos hLf hDf (by omega) hn)
          rw [hn] at KN
          obtain ⟨T, hT⟩ : ∃ T : ByteArray, (⟨t.toArray⟩ : ByteArray) = T := ⟨_, rfl⟩
          have HT := Lib.hid (And.intro hT (show T.size = t.length from by rw [← hT, size_of]))
          simp only [hT] at KN
          clear hL hLf hD hDf h39 hn hT
          go_enter Tryd.func19, Tryd.ntmps19
          go_wp2_with fail
          refine (KL.out _).mono ?_
          rintro e w1 ⟨rfl, rfl⟩
          go_wp2_with fail
          refine (KD.out _).mono ?_
          rintro e w1 ⟨rfl, rfl⟩
          go_wp2_with fail
          refine (KN.out _ (HE.out _ (Below.refl _ _))).mono ?_
          rintro e V ⟨rfl, hb⟩
          have HV := Lib.hid (new8 w (V := V) (by subst hb; exact Below.refl _ _))
          clear hb
          obtain ⟨c0, c1, c2, c3, f0, f1, f2, f3⟩ := cells8 HV.out.1
          go_wp2
          obtain ⟨hh, hbb⟩ := put8 HV.out.1 (Nat.le_refl _) HV.out.2 (.int .i64 3) (.string T) (.int .i64 0) (.int .i64 0)
          obtain ⟨r0, r1, r2, r3, _, _, _, _⟩ := cells8 hh
          refine bodyPost_ret (v := .tuple #[.agg #[.int .i64 3, .string T, .int .i64 0, .int .i64 0], .int .i64 (T.size : Int), .int .i64 c]) (by simp [results, Tryd.results19, go_sem, r0, r1, r2, r3]) rfl ?_
          exact ⟨⟨3, t, 0, 0⟩, T.size, by rw [HW.out.1, ← HT.out.1]; rfl, rfl, fun h => ⟨by rw [HW.out.2 (HW.out.1.symm.trans h)], by rw [HW.out.2 (HW.out.1.symm.trans h), HT.out.2]⟩, hbb⟩
end Go.Proofs.YtikpbfghdiomgaaDoor
