/-
  The contract of the given package's SpanReads over this seat's translation. Conditions: the text is a Go string; the world bears what the library's functions on texts read.
-/
import Derived.Test.YtaicfgimaeojbaaDoorTextI
namespace Go.Proofs.YtaicfgimaeojbaaDoor
open Go.RowKit Tx
attribute [local go_sem ↓] Go.wp_at_zero Go.wp_at_succ

theorem rread_w (s : ByteArray) (hs : s.size ≤ 10000) (w : World) :
    Calls Tryd.prog 10 #[.string s] w fun e w' => ∃ n d c, e = .returned (.tuple #[.agg #[.int .i64 n, .int .i64 d], .int .i64 c]) ∧ ReadP s.data.toList n d c ∧ Below w.heap.size w w' := by
  by_cases hnv : s.data.toList = neverL
  · have e : s = ⟨#[110, 101, 118, 101, 114]⟩ := by rw [← bs_list s, hnv]; rfl
    refine (e ▸ rread_never w : Calls _ _ #[.string s] _ _).mono ?_
    rintro e w' ⟨rfl, hb⟩
    exact ⟨1, 0, 0, rfl, .inl ⟨rfl, by rw [hnv]; exact T_never⟩, hb⟩
  · have hn : (s.toList == nvL) = false := by
      rw [beq_eq_false_iff_ne, ByteArray.toList_eq]
      exact hnv
    exact rread_c s hs hn (Lib.hid hnv) w

set_option maxHeartbeats 1000000 in
set_option maxRecDepth 100000 in
theorem reads_long (s : ByteArray) (hs : (10000 : Int) < s.size) (w : World) :
    Calls Tryd.prog 4 #[.string s] w fun e w' => e = .returned (.bool true) ∧ Below w.heap.size w w' := by
  go_enter Tryd.func4, Tryd.ntmps4
  go_wp2_with fail
  refine (awake_c _).mono ?_
  rintro e w1 ⟨rfl, hb⟩
  go_wp2
  go_ret
  exact ⟨rfl, hb⟩

set_option maxHeartbeats 1000000 in
set_option maxRecDepth 100000 in
theorem reads_short (s : ByteArray) (hs : s.size ≤ 10000) (w : World) (he : Env w) :
    Calls Tryd.prog 4 #[.string s] w fun e w' => e = .returned (.bool true) ∧ Below w.heap.size w w' := by
  have hs2 : ¬ (10000 : Int) < s.size := by omega
  go_enter Tryd.func4, Tryd.ntmps4
  go_wp2_with fail
  refine (read_c s hs _ he).mono ?_
  rintro e w1 ⟨n, d, c, rfl, hr, hb⟩
  have HR := Lib.hid hr
  clear hr
  have WB := belowA hb (.cells #[.int .i64 n, .int .i64 d] 23)
  clear hb
  go_wp2_with fail
  refine (rread_w s hs _).mono ?_
  rintro e w2 ⟨n2, d2, c2, rfl, hr, hb⟩
  obtain ⟨rfl, rfl, rfl⟩ := HR.out.same hr
  clear hr
  have M : At2 w1.heap.size n d w2 := At2.keep ⟨by go_simp, by go_simp⟩ hb
  replace WB := belowA (belowT WB hb) (.cells #[.int .i64 n, .int .i64 d] 23)
  replace M := M.keep (belowA (Below.refl _ w2) (.cells #[.int .i64 n, .int .i64 d] 23))
  clear hb
  go_wp2_with fail
  refine (awake_c _).mono ?_
  rintro e w3 ⟨rfl, hb⟩
  have M2 : At2 w2.heap.size n d w3 := At2.keep ⟨by go_simp, by go_simp⟩ hb
  replace M := M.keep hb
  replace WB := belowT WB hb
  clear hb
  obtain ⟨c0, c1⟩ := M
  obtain ⟨d0, d1⟩ := M2
  go_wp2
  go_ret
  exact ⟨rfl, WB⟩

theorem reads_c (s : ByteArray) (w : World) (he : Env w) :
    Calls Tryd.prog 4 #[.string s] w fun e w' => e = .returned (.bool true) ∧ Below w.heap.size w w' := by
  by_cases h : s.size ≤ 10000
  · exact reads_short s h w he
  · exact reads_long s (by omega) w
end Go.Proofs.YtaicfgimaeojbaaDoor
