/-
  The contracts of package stamp over this seat's translation, fourth part: Text. Conditions: the numbers are ints, and the library's table lies.
-/
import Derived.Test.YtmkclkppolfpnaaDoorMG
import Derived.Test.YtmkclkppolfpnaaDoorMH
namespace Go.Proofs.YtmkclkppolfpnaaDoor
open Go.RowKit Tx

set_option maxHeartbeats 8000000 in
set_option maxRecDepth 100000 in
theorem ptext_c (n d c : Int) (hs : In3 n d c) (w : World) (he : Env w) :
    Calls Tryd.prog 16 #[stV n d c] w fun e w' => e = .returned (.string (sText n d c)) ∧ Below w.heap.size w w' := by
  have K1 := Lib.hid (pright_c n d c hs)
  have hnew := World.alloc_heap_new w (.cells #[.int .i64 n, .int .i64 d, .int .i64 c] 27)
  have hb0 : Below w.heap.size w (w.alloc (.cells #[.int .i64 n, .int .i64 d, .int .i64 c] 27)) := (Below.refl _ w).alloc (Nat.le_refl _) _
  have HN := Lib.hid (And.intro hnew hb0)
  have HE := Lib.hid he
  have K2 := Lib.hid (fun W hE => text_c n d hs.1 hs.2.1 W hE)
  clear hnew hb0 he
  by_cases r1 : sRight n d c = true
  · have q := sRight_iff.1 r1
    rw [r1] at K1
    by_cases h0 : c = 0
    · have hS : sText n d c = textS n d := by unfold sText textS stL; rw [if_pos r1, if_pos h0, if_pos q.1]
      have hz : (c == 0) = true := by simpa using h0
      rw [hS]
      clear q r1 hS hs h0
      go_enter Tryd.func16, Tryd.ntmps16
      go_wp2_with fail
      refine (K1.out _).mono ?_
      rintro e w1 ⟨rfl, hb1⟩
      obtain ⟨c0, c1, c2⟩ := cells3 HN.out.1 hb1
      have HB := Lib.hid (belowT HN.out.2 hb1)
      clear hb1
      go_wp2_with fail
      refine (K2.out _ (HE.out.keep HB.out)).mono ?_
      rintro e w2 ⟨rfl, hb2⟩
      have HB := Lib.hid (belowT HB.out hb2)
      clear hb2
      go_wp2
      go_ret
      exact ⟨rfl, HB.out⟩
    · have hS : sText n d c = ⟨(textL n d ++ 43 :: Lib.decDigits c.toNat).toArray⟩ := by unfold sText stL; rw [if_pos r1, if_neg h0]
      have hS2 : textS n d = ⟨(textL n d).toArray⟩ := by unfold textS; rw [if_pos q.1]
      have hz : (c == 0) = false := by simpa using h0
      have hl := stL_len hs.1 hs.2.1 q.1
      have hl2 := dec_len c.toNat (by have := q.2.1; omega)
      have KD := Lib.hid (fun W hE => itoa_c c q.2.1.1 (by have := q.2.1; omega) W hE)
      rw [hS]
      rw [hS2] at K2
      generalize textL n d = L at *
      generalize Lib.decDigits c.toNat = M at *
      have hl3 : ¬ 9223372036854775807 < L.length + 1 := by omega
      have hl4 : ¬ 9223372036854775807 < L.length + 1 + M.length := by omega
      clear q r1 hS hS2 hs h0
      have mixed : Tryd.prog.follows .mixedOrders = true := by kernel_rfl
      go_enter Tryd.func16, Tryd.ntmps16
      go_wp2_with fail
      refine (K1.out _).mono ?_
      rintro e w1 ⟨rfl, hb1⟩
      obtain ⟨c0, c1, c2⟩ := cells3 HN.out.1 hb1
      have WB := belowT HN.out.2 hb1
      clear hb1
      go_wp2_with fail
      go_region_held3 (fun w' => w'.cell? ⟨w.heap.size, 0, none⟩ = some (.int .i64 n) ∧ w'.cell? ⟨w.heap.size, 1, none⟩ = some (.int .i64 d) ∧ w'.cell? ⟨w.heap.size, 2, none⟩ = some (.int .i64 c) ∧ Below w.heap.size w w')
        (first | exact ⟨c0, c1, c2, Below.drew WB⟩ | (go_split_ands; exact ⟨keepc hb (by assumption), keepc hb (by assumption), keepc hb (by assumption), belowT (by assumption) hb⟩) | go_keep)
        (first
          | (go_at_call 34; refine (K2.out _ (HE.out.keep (by first | with_reducible assumption | (go_split_ands; with_reducible assumption)))).mono ?_; rintro e w6 ⟨rfl, hb⟩)
          | (go_at_call 35; refine (KD.out _ (HE.out.keep (by first | with_reducible assumption | (go_split_ands; with_reducible assumption)))).mono ?_; rintro e w6 ⟨rfl, hb⟩))
      all_goals go_wp2
      all_goals go_ret
      all_goals exact ⟨ret_str (by rw [show (⟨#[43]⟩ : ByteArray) = ⟨([43] : List UInt8).toArray⟩ from rfl, bapp, bapp]; simp), (by go_split_ands; repeat (first | with_reducible assumption | with_reducible exact Below.refl _ _ | with_reducible refine belowN ?_ _ | with_reducible refine Below.drew ?_ | with_reducible refine belowA ?_ _ | with_reducible refine belowT ?_ (by assumption)))⟩
  · rw [Bool.eq_false_iff.2 r1] at K1
    have hS : sText n d c = ⟨#[]⟩ := by unfold sText; rw [if_neg r1]
    rw [hS]
    clear r1 hS hs
    go_enter Tryd.func16, Tryd.ntmps16
    go_wp2_with fail
    refine (K1.out _).mono ?_
    rintro e w1 ⟨rfl, hb1⟩
    have HB := Lib.hid (belowT HN.out.2 hb1)
    clear hb1
    go_wp2
    go_ret
    exact ⟨rfl, HB.out⟩
end Go.Proofs.YtmkclkppolfpnaaDoor
