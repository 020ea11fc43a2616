/-
  The contract of the given package gavotteref01's Num.Add over this seat's translation, the walk: the sum. Conditions: those that each theorem states.
-/
import Derived.Test.YthdadpafankbfaaDoorRefE
import Derived.Test.YthdadpafankbfaaDoorRefF
namespace Go.Proofs.YthdadpafankbfaaDoor
open Go.RowKit
attribute [local go_sem ↓] Go.wp_at_zero Go.wp_at_succ

theorem OwnL.snoc {w : World} {B : Nat} {v : Value} {l : List Int} {x : Int} {n : Nat} (hn : l.length = n) (h : w.ownsRow B 3 1 v (n + 1) (l.map (Value.int .i64) ++ [.int .i64 x])) : OwnL w B v (l ++ [x]) := by
  subst hn
  simp only [OwnL, List.length_append, List.length_singleton, List.map_append, List.map_cons, List.map_nil]
  exact h
theorem OwnL.is {w : World} {B : Nat} {v : Value} {l : List Int} (h : OwnL w B v l) (hd : Dig l) (hc : Can l) : NumIs w v (val l) := ⟨l, h.num, hd, hc, rfl, h.shp⟩
theorem getD_out {l : List Int} {i : Nat} (h : ¬ i < l.length) : l.getD i 0 = 0 := by simp [List.getD, List.getElem?_eq_none (Nat.le_of_not_lt h)]

def AddRel (la lb : List Int) (w : World) (vo vc vi : Value) (wr : World) : Prop :=
  ∃ (i : Nat) (os : List Int) (c : Int), OwnL wr w.heap.size vo os ∧ vc = .int .i64 c ∧ vi = .int .i64 i ∧ AddI la lb i os c ∧ Below w.heap.size w wr

set_option maxHeartbeats 4000000 in
set_option maxRecDepth 100000 in
theorem add_w (x y : Option Addr) (cx cy : Nat) (la lb : List Int) (hla : la.length ≤ 300) (hlb : lb.length ≤ 300) (da : Dig la) (db : Dig lb) (ca : Can la) (cb : Can lb) (w : World)
    (hx : la = [] ∨ ∃ b off, x = some ⟨b, off, none⟩ ∧ ∀ i, i < la.length → w.cell? ⟨b, off + i, none⟩ = some (.int .i64 (la.getD i 0)))
    (hy : lb = [] ∨ ∃ b off, y = some ⟨b, off, none⟩ ∧ ∀ i, i < lb.length → w.cell? ⟨b, off + i, none⟩ = some (.int .i64 (lb.getD i 0))) :
    Calls Tryd.prog 44 #[.slice x la.length cx, .slice y lb.length cy] w (MulPost w (val la + val lb)) := by
  obtain ⟨i0, hi, hz0, hz1, hz2⟩ := info_parts infoInt
  have HX := Lib.hid hx
  have HY := Lib.hid hy
  have DA := Lib.hid da
  have DB := Lib.hid db
  have CA := Lib.hid ca
  have CB := Lib.hid cb
  clear hx hy da db ca cb
  go_enter Tryd.func44, Tryd.ntmps44
  go_wp2
  go_loopw [5, 6, 7, 8] (fun vo vc vi _ wr => AddRel la lb w vo vc vi wr) (fun _ _ vi _ _ => la.length + lb.length + 2 - (intOf vi).toNat)
  case atStart => exact ⟨0, [], 0, World.ownsRow_nil _ _ _ _, rfl, rfl, AddI.start la lb, Below.refl _ _⟩
  case round =>
    obtain ⟨i, os, c, hR, rfl, rfl, hI, hbl⟩ := hrel
    have HI := Lib.hid hI
    have HR := Lib.hid hR
    have hc0 := hI.c0
    have hc1 := hI.c1
    have hol := hI.len
    have hsz := hbl.size
    clear hI hR
    by_cases hg : i < la.length ∨ i < lb.length ∨ 0 < c
    · have hil := HI.out.place DA.out DB.out hg
      have hxd := DA.out.at i
      have hyd := DB.out.at i
      have HS := Lib.hid (HI.out.step DA.out DB.out CA.out CB.out hg rfl)
      clear HI
      by_cases ha : i < la.length
      · have ha' : (i : Int) < (la.length : Int) := by omega
        rcases HX.out with rfl | ⟨b, off, rfl, hcx⟩
        · simp at ha
        have c2 := keepc hbl (hcx i ha)
        by_cases hb : i < lb.length
        · have hb' : (i : Int) < (lb.length : Int) := by omega
          rcases HY.out with rfl | ⟨b', off', rfl, hcy⟩
          · simp at hb
          have c3 := keepc hbl (hcy i hb)
          generalize la.getD i 0 = X at *
          generalize lb.getD i 0 = Y at *
          go_wp2_with (at_builtin; refine wpList_append_own _ rfl _ _ 58 rfl w.heap.size 3 i0 (.int .i64 0) 1 8 Tryd.underlying58 hi hz0 hz1 hz2 rfl (by decide) _ _ _ rfl (World.ownsRow.alloc HR.out _) ⟨wr.heap.size, 0, none⟩ 1 1 [.int .i64 ((c + X + Y) % 10000)] rfl rfl ?c1v1 ?c2v1 ?c3v1 ?c4v1 ?c5v1 ?_)
          try (case c1v1 => exact cell_one_new _ _ _)
          case c2v1 => simp [Value.oneCell']
          case c3v1 => unfold maxLen; omega
          case c4v1 => omega
          case c5v1 => first | (simp; omega) | omega
          intro v' w' hown' hgrow _
          have hb' := Below.grown (belowA hbl _) hgrow (belowA hbl _).size (fun k hk => (HR.out.lt k hk).1)
          have H3 := Lib.hid (OwnL.snoc hol hown')
          clear hown' hgrow
          go_wp2
          go_roundw
          case rel => exact ⟨i + 1, os ++ [(c + X + Y) % 10000], (c + X + Y) / 10000, H3.out, rfl, by simp, HS.out, hb'⟩
          case measure => simp [intOf]; omega
        · have hb' : ¬ (i : Int) < (lb.length : Int) := by omega
          rw [getD_out hb] at HS
          simp only [Int.add_zero] at HS
          generalize la.getD i 0 = X at *
          go_wp2_with (at_builtin; refine wpList_append_own _ rfl _ _ 58 rfl w.heap.size 3 i0 (.int .i64 0) 1 8 Tryd.underlying58 hi hz0 hz1 hz2 rfl (by decide) _ _ _ rfl (World.ownsRow.alloc HR.out _) ⟨wr.heap.size, 0, none⟩ 1 1 [.int .i64 ((c + X) % 10000)] rfl rfl ?c1v2 ?c2v2 ?c3v2 ?c4v2 ?c5v2 ?_)
          try (case c1v2 => exact cell_one_new _ _ _)
          case c2v2 => simp [Value.oneCell']
          case c3v2 => unfold maxLen; omega
          case c4v2 => omega
          case c5v2 => first | (simp; omega) | omega
          intro v' w' hown' hgrow _
          have hb' := Below.grown (belowA hbl _) hgrow (belowA hbl _).size (fun k hk => (HR.out.lt k hk).1)
          have H3 := Lib.hid (OwnL.snoc hol hown')
          clear hown' hgrow
          go_wp2
          go_roundw
          case rel => exact ⟨i + 1, os ++ [(c + X) % 10000], (c + X) / 10000, H3.out, rfl, by simp, HS.out, hb'⟩
          case measure => simp [intOf]; omega
      · have ha' : ¬ (i : Int) < (la.length : Int) := by omega
        rw [getD_out ha] at HS
        simp only [Int.add_zero] at HS
        by_cases hb : i < lb.length
        · have hb' : (i : Int) < (lb.length : Int) := by omega
          rcases HY.out with rfl | ⟨b', off', rfl, hcy⟩
          · simp at hb
          have c3 := keepc hbl (hcy i hb)
          generalize lb.getD i 0 = Y at *
          go_wp2_with (at_builtin; refine wpList_append_own _ rfl _ _ 58 rfl w.heap.size 3 i0 (.int .i64 0) 1 8 Tryd.underlying58 hi hz0 hz1 hz2 rfl (by decide) _ _ _ rfl (World.ownsRow.alloc HR.out _) ⟨wr.heap.size, 0, none⟩ 1 1 [.int .i64 ((c + Y) % 10000)] rfl rfl ?c1v3 ?c2v3 ?c3v3 ?c4v3 ?c5v3 ?_)
          try (case c1v3 => exact cell_one_new _ _ _)
          case c2v3 => simp [Value.oneCell']
          case c3v3 => unfold maxLen; omega
          case c4v3 => omega
          case c5v3 => first | (simp; omega) | omega
          intro v' w' hown' hgrow _
          have hb' := Below.grown (belowA hbl _) hgrow (belowA hbl _).size (fun k hk => (HR.out.lt k hk).1)
          have H3 := Lib.hid (OwnL.snoc hol hown')
          clear hown' hgrow
          go_wp2
          go_roundw
          case rel => exact ⟨i + 1, os ++ [(c + Y) % 10000], (c + Y) / 10000, H3.out, rfl, by simp, HS.out, hb'⟩
          case measure => simp [intOf]; omega
        · have hb' : ¬ (i : Int) < (lb.length : Int) := by omega
          rw [getD_out hb] at HS
          simp only [Int.add_zero] at HS
          have hcp : 0 < c := by omega
          go_wp2_with (at_builtin; refine wpList_append_own _ rfl _ _ 58 rfl w.heap.size 3 i0 (.int .i64 0) 1 8 Tryd.underlying58 hi hz0 hz1 hz2 rfl (by decide) _ _ _ rfl (World.ownsRow.alloc HR.out _) ⟨wr.heap.size, 0, none⟩ 1 1 [.int .i64 ((c) % 10000)] rfl rfl ?c1v4 ?c2v4 ?c3v4 ?c4v4 ?c5v4 ?_)
          try (case c1v4 => exact cell_one_new _ _ _)
          case c2v4 => simp [Value.oneCell']
          case c3v4 => unfold maxLen; omega
          case c4v4 => omega
          case c5v4 => first | (simp; omega) | omega
          intro v' w' hown' hgrow _
          have hb' := Below.grown (belowA hbl _) hgrow (belowA hbl _).size (fun k hk => (HR.out.lt k hk).1)
          have H3 := Lib.hid (OwnL.snoc hol hown')
          clear hown' hgrow
          go_wp2
          go_roundw
          case rel => exact ⟨i + 1, os ++ [(c) % 10000], (c) / 10000, H3.out, rfl, by simp, HS.out, hb'⟩
          case measure => simp [intOf]; omega
    · have h1 : ¬ (i : Int) < (la.length : Int) := by omega
      have h2 : ¬ (i : Int) < (lb.length : Int) := by omega
      have h3 : c = 0 := by omega
      subst h3
      have HE := Lib.hid (HI.out.done hg)
      go_wp2
      go_ret
      exact ⟨⟨_, rfl, HE.out.2 ▸ HR.out.is HI.out.dig HE.out.1, HR.out.new⟩, hbl⟩

theorem nadd_c (va vb : Value) (X Y : Int) (w : World) (na : NumIs w va X) (nb : NumIs w vb Y) (hX : X < 10000 ^ 300) (hY : Y < 10000 ^ 300) :
    Calls Tryd.prog 44 #[va, vb] w (MulPost w (X + Y)) := by
  obtain ⟨la, ⟨x, cx, rfl, hx⟩, a2, a3, rfl, _⟩ := na
  obtain ⟨lb, ⟨y, cy, rfl, hy⟩, b2, b3, rfl, _⟩ := nb
  exact add_w x y cx cy la lb (can_len la a2 a3 300 hX) (can_len lb b2 b3 300 hY) a2 b2 a3 b3 w hx hy
end Go.Proofs.YthdadpafankbfaaDoor
