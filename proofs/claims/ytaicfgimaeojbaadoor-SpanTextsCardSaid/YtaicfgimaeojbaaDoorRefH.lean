/-
  The contract of the given package gavotteref01's Num.Sub over this seat's translation, the walk: the difference. Conditions: those that each theorem states.
-/
import Derived.Test.YtaicfgimaeojbaaDoorRefE
import Derived.Test.YtaicfgimaeojbaaDoorRefG
namespace Go.Proofs.YtaicfgimaeojbaaDoor
open Go.RowKit
attribute [local go_sem ↓] Go.wp_at_zero Go.wp_at_succ

def SubRel (la lb : List Int) (w : World) (vo vc vi : Value) (wr : World) : Prop :=
  ∃ (i : Nat) (os : List Int) (c : Int), OwnL wr w.heap.size vo os ∧ vc = .int .i64 c ∧ vi = .int .i64 i ∧ SubI la lb i os c ∧ i ≤ la.length ∧ Below w.heap.size w wr

set_option maxHeartbeats 4000000 in
set_option maxRecDepth 100000 in
theorem sub_w (x y : Option Addr) (cx cy : Nat) (la lb : List Int) (hla : la.length ≤ 300) (hlb : lb.length ≤ 300) (da : Dig la) (db : Dig lb) (cb : Can lb) (hle : val lb ≤ val la) (w : World)
    (hx : la = [] ∨ ∃ b off, x = some ⟨b, off, none⟩ ∧ ∀ i, i < la.length → w.cell? ⟨b, off + i, none⟩ = some (.int .i64 (la.getD i 0)))
    (hy : lb = [] ∨ ∃ b off, y = some ⟨b, off, none⟩ ∧ ∀ i, i < lb.length → w.cell? ⟨b, off + i, none⟩ = some (.int .i64 (lb.getD i 0))) :
    Calls Tryd.prog 38 #[.slice x la.length cx, .slice y lb.length cy] w (MulPost w (val la - val lb)) := by
  obtain ⟨i0, hi, hz0, hz1, hz2⟩ := info_parts infoInt
  have HX := Lib.hid hx
  have HY := Lib.hid hy
  have DA := Lib.hid da
  have DB := Lib.hid db
  have CB := Lib.hid cb
  have HL := Lib.hid hle
  clear hx hy da db cb hle
  go_enter Tryd.func38, Tryd.ntmps38
  go_wp2
  go_loopw [5, 6, 7, 8] (fun vo vc vi _ wr => SubRel la lb w vo vc vi wr) (fun _ _ vi _ _ => la.length - (intOf vi).toNat)
  case atStart => exact ⟨0, [], 0, World.ownsRow_nil _ _ _ _, rfl, rfl, SubI.start la lb, Nat.zero_le _, Below.refl _ _⟩
  case round =>
    obtain ⟨i, os, c, hR, rfl, rfl, hI, hil, hbl⟩ := hrel
    have HI := Lib.hid hI
    have HR := Lib.hid hR
    have hc0 := hI.c0
    have hc1 := hI.c1
    have hol := hI.len
    have hsz := hbl.size
    clear hI hR
    by_cases ha : i < la.length
    · have hxd := DA.out.at i
      have hyd := DB.out.at i
      have HS := Lib.hid (HI.out.step DA.out DB.out rfl rfl rfl)
      clear HI
      have ha' : (i : Int) < (la.length : Int) := by omega
      rcases HX.out with rfl | ⟨b, off, rfl, hcx⟩
      · simp at ha
      have c2 := keepc hbl (hcx i ha)
      by_cases hb : i < lb.length
      · have hb' : (i : Int) < (lb.length : Int) := by omega
        rcases HY.out with rfl | ⟨b', off', rfl, hcy⟩
        · simp at hb
        have c3 := keepc hbl (hcy i hb)
        generalize la.getD i 0 = X at *
        generalize lb.getD i 0 = Y at *
        by_cases hn : X - c - Y < 0
        · rw [if_pos hn, if_pos hn] at HS
          go_wp2_with (at_builtin; refine wpList_append_own _ rfl _ _ 38 rfl w.heap.size 3 i0 (.int .i64 0) 1 8 Tryd.underlying38 hi hz0 hz1 hz2 rfl (by decide) _ _ _ rfl (World.ownsRow.alloc HR.out _) ⟨wr.heap.size, 0, none⟩ 1 1 [.int .i64 (X - c - Y + 10000)] rfl rfl ?c1v5 ?c2v5 ?c3v5 ?c4v5 ?c5v5 ?_)
          try (case c1v5 => exact cell_one_new _ _ _)
          case c2v5 => simp [Value.oneCell']
          case c3v5 => unfold maxLen; omega
          case c4v5 => omega
          case c5v5 => first | (simp; omega) | omega
          intro v' w' hown' hgrow _
          have hb' := Below.grown (belowA hbl _) hgrow (belowA hbl _).size (fun k hk => (HR.out.lt k hk).1)
          have H3 := Lib.hid (OwnL.snoc hol hown')
          clear hown' hgrow
          go_wp2
          go_roundw
          case rel => exact ⟨i + 1, os ++ [X - c - Y + 10000], 1, H3.out, rfl, by simp, HS.out, by omega, hb'⟩
          case measure => simp [intOf]; omega
        · rw [if_neg hn, if_neg hn] at HS
          go_wp2_with (at_builtin; refine wpList_append_own _ rfl _ _ 38 rfl w.heap.size 3 i0 (.int .i64 0) 1 8 Tryd.underlying38 hi hz0 hz1 hz2 rfl (by decide) _ _ _ rfl (World.ownsRow.alloc HR.out _) ⟨wr.heap.size, 0, none⟩ 1 1 [.int .i64 (X - c - Y)] rfl rfl ?c1v6 ?c2v6 ?c3v6 ?c4v6 ?c5v6 ?_)
          try (case c1v6 => exact cell_one_new _ _ _)
          case c2v6 => simp [Value.oneCell']
          case c3v6 => unfold maxLen; omega
          case c4v6 => omega
          case c5v6 => first | (simp; omega) | omega
          intro v' w' hown' hgrow _
          have hb' := Below.grown (belowA hbl _) hgrow (belowA hbl _).size (fun k hk => (HR.out.lt k hk).1)
          have H3 := Lib.hid (OwnL.snoc hol hown')
          clear hown' hgrow
          go_wp2
          go_roundw
          case rel => exact ⟨i + 1, os ++ [X - c - Y], 0, H3.out, rfl, by simp, HS.out, by omega, hb'⟩
          case measure => simp [intOf]; omega
      · have hb' : ¬ (i : Int) < (lb.length : Int) := by omega
        rw [getD_out hb] at HS
        simp only [Int.sub_zero] at HS
        generalize la.getD i 0 = X at *
        by_cases hn : X - c < 0
        · rw [if_pos hn, if_pos hn] at HS
          go_wp2_with (at_builtin; refine wpList_append_own _ rfl _ _ 38 rfl w.heap.size 3 i0 (.int .i64 0) 1 8 Tryd.underlying38 hi hz0 hz1 hz2 rfl (by decide) _ _ _ rfl (World.ownsRow.alloc HR.out _) ⟨wr.heap.size, 0, none⟩ 1 1 [.int .i64 (X - c + 10000)] rfl rfl ?c1v7 ?c2v7 ?c3v7 ?c4v7 ?c5v7 ?_)
          try (case c1v7 => exact cell_one_new _ _ _)
          case c2v7 => simp [Value.oneCell']
          case c3v7 => unfold maxLen; omega
          case c4v7 => omega
          case c5v7 => first | (simp; omega) | omega
          intro v' w' hown' hgrow _
          have hb' := Below.grown (belowA hbl _) hgrow (belowA hbl _).size (fun k hk => (HR.out.lt k hk).1)
          have H3 := Lib.hid (OwnL.snoc hol hown')
          clear hown' hgrow
          go_wp2
          go_roundw
          case rel => exact ⟨i + 1, os ++ [X - c + 10000], 1, H3.out, rfl, by simp, HS.out, by omega, hb'⟩
          case measure => simp [intOf]; omega
        · rw [if_neg hn, if_neg hn] at HS
          go_wp2_with (at_builtin; refine wpList_append_own _ rfl _ _ 38 rfl w.heap.size 3 i0 (.int .i64 0) 1 8 Tryd.underlying38 hi hz0 hz1 hz2 rfl (by decide) _ _ _ rfl (World.ownsRow.alloc HR.out _) ⟨wr.heap.size, 0, none⟩ 1 1 [.int .i64 (X - c)] rfl rfl ?c1v8 ?c2v8 ?c3v8 ?c4v8 ?c5v8 ?_)
          try (case c1v8 => exact cell_one_new _ _ _)
          case c2v8 => simp [Value.oneCell']
          case c3v8 => unfold maxLen; omega
          case c4v8 => omega
          case c5v8 => first | (simp; omega) | omega
          intro v' w' hown' hgrow _
          have hb' := Below.grown (belowA hbl _) hgrow (belowA hbl _).size (fun k hk => (HR.out.lt k hk).1)
          have H3 := Lib.hid (OwnL.snoc hol hown')
          clear hown' hgrow
          go_wp2
          go_roundw
          case rel => exact ⟨i + 1, os ++ [X - c], 0, H3.out, rfl, by simp, HS.out, by omega, hb'⟩
          case measure => simp [intOf]; omega
    · have h1 : ¬ (i : Int) < (la.length : Int) := by omega
      have h3 : i = la.length := by omega
      subst h3
      have HE := Lib.hid (HI.out.done DA.out DB.out CB.out HL.out)
      go_wp2_with fail
      refine (trim_own _ os (by omega) w.heap.size wr HR.out HI.out.dig).mono ?_
      rintro e w1 ⟨⟨v', rfl, hv', hnw⟩, rfl⟩
      go_wp2
      go_ret
      exact ⟨⟨v', rfl, HE.out ▸ hv', hnw⟩, hbl⟩

theorem nsub_c (va vb : Value) (X Y : Int) (w : World) (na : NumIs w va X) (nb : NumIs w vb Y) (hX : X < 10000 ^ 300) (hle : Y ≤ X) :
    Calls Tryd.prog 38 #[va, vb] w (MulPost w (X - Y)) := by
  obtain ⟨la, ⟨x, cx, rfl, hx⟩, a2, a3, rfl, _⟩ := na
  obtain ⟨lb, ⟨y, cy, rfl, hy⟩, b2, b3, rfl, _⟩ := nb
  exact sub_w x y cx cy la lb (can_len la a2 a3 300 hX) (can_len lb b2 b3 300 (Int.lt_of_le_of_lt hle hX)) a2 b2 b3 hle w hx hy
end Go.Proofs.YtaicfgimaeojbaaDoor
