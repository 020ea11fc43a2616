/-
  The contract of the given package gavotteref01's Num.Mul over this seat's translation, the walk: the product. Conditions: those that each theorem states.
-/
import Derived.Test.YtaicfgimaeojbaaDoorRefD
namespace Go.Proofs.YtaicfgimaeojbaaDoor
open Go.RowKit
attribute [local go_sem ↓] Go.wp_at_zero Go.wp_at_succ

def MulPost (w : World) (N : Int) (e : Ending) (w' : World) : Prop := (∃ v, e = .returned v ∧ NumIs w' v N ∧ New w.heap.size v) ∧ Below w.heap.size w w'
/-- The row that the call made, at block g. -/
def RowL (w : World) (B g n : Nat) (l : List Int) : Prop := w.ownsRow B 3 1 (.slice (some ⟨g, 0, none⟩) n n) n (l.map (Value.int .i64)) ∧ B ≤ g
theorem RowL.set {w : World} {B g n : Nat} {l : List Int} (h : RowL w B g n l) (j : Nat) (d : Int) : RowL (w.setCell ⟨g, j, none⟩ (.int .i64 d)) B g n (l.set j d) := by
  have := (h.1.stored j (.int .i64 d)).1
  rw [← List.map_set] at this
  exact ⟨this, h.2⟩
theorem RowL.drewN {w : World} {B g n : Nat} {l : List Int} (h : RowL w B g n l) (k : Nat) : RowL (w.drewN k) B g n l := h
theorem RowL.cell {w : World} {B g n : Nat} {l : List Int} (h : RowL w B g n l) (hl : l.length = n) (j : Nat) (hj : j < n) : w.cell? ⟨g, j, none⟩ = some (.int .i64 (l.getD j 0)) := by
  have := h.1.cellAt j (by omega)
  rw [this]
  simp [List.getD, List.getElem?_eq_getElem (show j < l.length by omega)]
theorem RowL.own {w : World} {B g n : Nat} {l : List Int} (h : RowL w B g n l) (hl : l.length = n) : OwnL w B (.slice (some ⟨g, 0, none⟩) n n) l := by
  unfold OwnL
  rw [hl]
  exact h.1

def OutRel (la lb : List Int) (w : World) (g n : Nat) (vi : Value) (wr : World) : Prop :=
  ∃ (i : Nat) (os : List Int), vi = .int .i64 i ∧ i ≤ la.length ∧ MulO la lb i os ∧ RowL wr w.heap.size g n os ∧ Below w.heap.size w wr
def InRel (la lb : List Int) (i : Nat) (w : World) (g n : Nat) (vc vk : Value) (wr : World) : Prop :=
  ∃ (k : Nat) (os : List Int) (c : Int), vc = .int .i64 c ∧ vk = .int .i64 k ∧ MulI la lb i k os c ∧ RowL wr w.heap.size g n os ∧ Below w.heap.size w wr

set_option maxHeartbeats 4000000 in
theorem mul_w (x y : Option Addr) (cx cy : Nat) (la lb : List Int) (hla : la.length ≤ 100) (hlb : lb.length ≤ 100) (da : Dig la) (db : Dig lb) (w : World)
    (hx : la = [] ∨ ∃ b off, x = some ⟨b, off, none⟩ ∧ ∀ i, i < la.length → w.cell? ⟨b, off + i, none⟩ = some (.int .i64 (la.getD i 0)))
    (hy : lb = [] ∨ ∃ b off, y = some ⟨b, off, none⟩ ∧ ∀ i, i < lb.length → w.cell? ⟨b, off + i, none⟩ = some (.int .i64 (lb.getD i 0))) :
    Calls Tryd.prog 37 #[.slice x la.length cx, .slice y lb.length cy] w (MulPost w (val la * val lb)) := by
  obtain ⟨i0, hi, hz0, hz1, hz2⟩ := info_parts infoInt
  have HX := Lib.hid hx
  have HY := Lib.hid hy
  have DA := Lib.hid da
  have DB := Lib.hid db
  clear hx hy da db
  go_enter Tryd.func37, Tryd.ntmps37
  go_wp2_with (at_make; refine wpList_make_full _ rfl _ _ 38 rfl w.heap.size 3 i0 (.int .i64 0) 1 Tryd.underlying38 hi hz0 hz1 .i64 .i64 _ _ (la.length + lb.length + 1) rfl rfl ?b1 ?b2 ?b3 ?b4 ?b5 ?_)
  case b1 => omega
  case b2 => omega
  case b3 => rw [hz2]; omega
  case b4 => unfold maxLen; omega
  case b5 => exact Nat.le_refl _
  intro w0 hown hgrow
  have hb0 := Below.grown (Below.refl w.heap.size w) hgrow (Nat.le_refl _) (fun k hk => by simp at hk)
  have hr0 : RowL w0 w.heap.size w.heap.size (la.length + lb.length + 1) (List.replicate (la.length + lb.length + 1) 0) := by
    refine ⟨?_, Nat.le_refl _⟩
    rw [List.map_replicate, ← toList_madeCells_one]
    exact hown
  clear hown hgrow
  have O0 := Lib.hid (MulO.start la lb)
  have R0 := Lib.hid hr0
  clear hr0
  generalize hn : la.length + lb.length + 1 = n at *
  go_wp2
  go_loopw [6, 7, 8, 9] (fun vi _ _ _ wr => OutRel la lb w w.heap.size n vi wr) (fun vi _ _ _ _ => la.length - (intOf vi).toNat)
  case atStart => exact ⟨0, _, rfl, by omega, O0.out, R0.out, hb0⟩
  case round =>
    obtain ⟨wo, rfl⟩ : ∃ wo : World, wo = wr := ⟨_, rfl⟩
    obtain ⟨i, os, rfl, hi, hO, hR, hbl⟩ := hrel
    clear R0 O0
    have HO := Lib.hid hO
    have HR := Lib.hid hR
    clear hO hR
    by_cases h1 : i < la.length
    · have h2 : (i : Int) < (la.length : Int) := by omega
      go_wp2
      go_loopw [7, 8, 9] (fun vc vk _ wr => InRel la lb i w w.heap.size n vc vk wr) (fun _ vk _ _ => lb.length + 2 - (intOf vk).toNat)
      case atStart => exact ⟨0, os, 0, rfl, rfl, HO.out.inner, HR.out, hbl⟩
      case round =>
        obtain ⟨k, os, c, rfl, rfl, hI, hR, hbl⟩ := hrel
        clear HO HR
        have HI := Lib.hid hI
        have HR := Lib.hid hR
        have hc0 := hI.c0
        have hc1 := hI.c1
        have hkl := hI.hk
        clear hI hR
        by_cases hg : k < lb.length ∨ 0 < c
        · have hk := HI.out.place DB.out DA.out h1 hg
          have c1 := HR.out.cell (hn ▸ HI.out.len) (i + k) (by omega)
          have hd := HI.out.dig.at (i + k)
          have hm : i + k < n := by omega
          have f1 := HR.out.1.frozenAt (i + k)
          rcases HX.out with rfl | ⟨b, off, rfl, hcx⟩
          · simp at h1
          have c2 := keepc hbl (hcx i h1)
          have hxd := DA.out.at i
          by_cases hkb : k < lb.length
          · have h4 : (k : Int) < (lb.length : Int) := by omega
            rcases HY.out with rfl | ⟨b', off', rfl, hcy⟩
            · simp at hkb
            have c3 := keepc hbl (hcy k hkb)
            have hyd := DB.out.at k
            have HS := Lib.hid (HI.out.step (y := lb.getD k 0) DA.out hk h1 (by rw [if_pos hkb]) DB.out rfl)
            have hp0 : 0 ≤ la.getD i 0 * lb.getD k 0 := Int.mul_nonneg hxd.1 hyd.1
            have hp1 : la.getD i 0 * lb.getD k 0 ≤ 9999 * 9999 := Int.mul_le_mul (by omega) (by omega) hyd.1 (by omega)
            generalize la.getD i 0 = X at *
            generalize lb.getD k 0 = Y at *
            generalize os.getD (i + k) 0 = O at *
            clear HI
            go_wp2
            go_quiet (fail)
            go_wp2
            go_roundw
            case rel => exact ⟨k + 1, _, _, rfl, by simp, HS.out, (HR.out.drewN _).set _ _, (belowN hbl _).setCell (Nat.le_refl _) _⟩
            case measure => simp [intOf]; omega
          · have h4 : ¬ (k : Int) < (lb.length : Int) := by omega
            have h5 : 0 < c := by omega
            have HS := Lib.hid (HI.out.step (y := 0) DA.out hk h1 (by rw [if_neg hkb]) DB.out rfl)
            simp only [Int.mul_zero, Int.add_zero] at HS
            generalize os.getD (i + k) 0 = O at *
            clear HI
            go_wp2
            go_roundw
            case rel => exact ⟨k + 1, _, _, rfl, by simp, HS.out, HR.out.set _ _, hbl.setCell (Nat.le_refl _) _⟩
            case measure => simp [intOf]; omega
        · have h3 : ¬ (k : Int) < (lb.length : Int) := by omega
          have h4 : c = 0 := by omega
          subst h4
          go_wp2
          go_roundw
          case rel => exact ⟨i + 1, os, by simp, by omega, HI.out.done (by omega) h1, HR.out, hbl⟩
          case measure => simp [intOf]; omega
    · have h2 : ¬ (i : Int) < (la.length : Int) := by omega
      have h3 : i = la.length := by omega
      subst h3
      have hv := HO.out.sum
      rw [List.take_length] at hv
      have HV := Lib.hid hv
      clear hv
      have hos := HO.out.len
      go_wp2_with fail
      refine (trim_own _ os (by omega) w.heap.size wo (HR.out.own (by omega)) HO.out.dig).mono ?_
      rintro e w1 ⟨⟨v', rfl, hv', hnw⟩, rfl⟩
      go_wp2
      go_ret
      exact ⟨⟨v', rfl, HV.out ▸ hv', hnw⟩, hbl⟩

theorem nmul_c (va vb : Value) (X Y : Int) (w : World) (na : NumIs w va X) (nb : NumIs w vb Y) (hX : X < 10000 ^ 100) (hY : Y < 10000 ^ 100) :
    Calls Tryd.prog 37 #[va, vb] w (MulPost w (X * Y)) := by
  obtain ⟨la, ⟨x, cx, rfl, hx⟩, a2, a3, rfl, _⟩ := na
  obtain ⟨lb, ⟨y, cy, rfl, hy⟩, b2, b3, rfl, _⟩ := nb
  exact mul_w x y cx cy la lb (can_len la a2 a3 100 hX) (can_len lb b2 b3 100 hY) a2 b2 w hx hy
end Go.Proofs.YtaicfgimaeojbaaDoor
