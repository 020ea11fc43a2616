/-
  The law StampLeast over this seat's translation. Conditions: those that each theorem states.
-/
import Derived.Test.YtmkclkppolfpnaaDoorStpL
import Derived.Test.YtmkclkppolfpnaaDoorStpE
import Derived.Test.YtmkclkppolfpnaaDoorStEq
import Derived.OwnWalk
import Derived.Deep.DeepCutAuto
namespace Go.Proofs.YtmkclkppolfpnaaDoor
open Go.RowKit Go.Shelf Go.Lib Go.Sort

theorem infoSt : (Tryd.prog.info? 27).map (fun i => (i.zero, i.size, i.bytes)) = some (some (.agg #[.int .i64 0, .int .i64 0, .int .i64 0]), 3, 24) := by kernel_rfl
/-- The cells of the first stamps of a list. -/
def colS (pl : Nat → St) : Nat → List Value
  | 0 => []
  | k + 1 => colS pl k ++ cS (pl k)
theorem colS_len (pl : Nat → St) : ∀ k, (colS pl k).length = k * 3
  | 0 => rfl
  | k + 1 => by
    unfold colS
    rw [List.length_append, colS_len, cS_len]
    omega
theorem colS_at (pl : Nat → St) : ∀ {k i : Nat}, i < k → ∀ {j : Nat} {v : Value}, (cS (pl i))[j]? = some v → (colS pl k)[i * 3 + j]? = some v
  | k + 1, i, hi, j, v, hj => by
    have hj3 : j < 3 := by
      have := (List.getElem?_eq_some_iff.1 hj).1
      rwa [cS_len] at this
    unfold colS
    by_cases h : i < k
    · rw [List.getElem?_append_left (by rw [colS_len]; omega)]
      exact colS_at pl h hj
    · obtain rfl : i = k := by omega
      rw [List.getElem?_append_right (by rw [colS_len]; omega), colS_len, show i * 3 + j - i * 3 = j from by omega]
      exact hj
theorem row_belowS {w w' : World} {B e size n : Nat} {v : Value} {xs : List Value} (h : w.ownsRow B e size v n xs) (hb : Below w.heap.size w w') : w'.ownsRow B e size v n xs := by
  refine ⟨h.1, ?_⟩
  rcases h.2 with h3 | ⟨g, cap, cur, e, hB, hg, rest⟩
  · exact .inl h3
  · exact .inr ⟨g, cap, cur, e, hB, (hb.block g (Array.getElem?_eq_some_iff.1 hg).1).trans hg, rest⟩
abbrev boxR (x : St) : Obj := .cells #[.int .i64 x.1, .int .i64 x.2.1, .int .i64 x.2.2] 25 (0, 0)
/-- The law's loop. -/
structure LsI (w : World) (bb B : Nat) (pl : Nat → St) (k : Nat) (y : St) (av : Value) (W : World) : Prop where
  below : Below w.heap.size w W
  size : B ≤ W.heap.size
  best : W.heap[bb]? = some (boxR y)
  row : W.ownsRow B 27 3 av k (colS pl k)
theorem LsI.keep {w A C : World} {bb B : Nat} {pl : Nat → St} {k : Nat} {y : St} {av : Value} (h : LsI w bb B pl k y av A) (hb : Below A.heap.size A C) : LsI w bb B pl k y av C :=
  ⟨bT' h.below hb h.below.size, Nat.le_trans h.size hb.size, kbT h.best hb, row_belowS h.row hb⟩
theorem LsI.grow {w A C : World} {bb B : Nat} {pl : Nat → St} {k : Nat} {y : St} {av v' : Value} (h : LsI w bb B pl k y av A) (hB : w.heap.size ≤ B) (hbb : bb < B) (hg : A.grownBy C av.ownBlock) (hown : C.ownsRow B 27 3 v' (k + 1) (colS pl k ++ cS (pl k))) : LsI w bb B pl (k + 1) y v' C := by
  have hlt : ∀ q, av.ownBlock = some q → B ≤ q := fun q e => (h.row.lt q e).1
  refine ⟨h.below.grown hg h.below.size fun q e => Nat.le_trans hB (hlt q e), Nat.le_trans h.size hg.size, ?_, hown⟩
  refine (hg.block bb (Array.getElem?_eq_some_iff.1 h.best).1 fun e => ?_).trans h.best
  have := hlt bb e.symm
  omega
theorem LsI.put {w V : World} {bb B : Nat} {pl : Nat → St} {k : Nat} {y : St} {av : Value} (h : LsI w bb B pl k y av V) (hb : w.heap.size ≤ bb) (hbb : bb < B) (x : St) :
    LsI w bb B pl k x av (((V.setCell ⟨bb, 0, none⟩ (.int .i64 x.1)).setCell ⟨bb, 1, none⟩ (.int .i64 x.2.1)).setCell ⟨bb, 2, none⟩ (.int .i64 x.2.2)) := by
  have hh : ∀ j, j ≠ bb → (((V.setCell ⟨bb, 0, none⟩ (.int .i64 x.1)).setCell ⟨bb, 1, none⟩ (.int .i64 x.2.1)).setCell ⟨bb, 2, none⟩ (.int .i64 x.2.2)).heap[j]? = V.heap[j]? := fun j hj => ((heap_setCell_other _ ⟨bb, 2, none⟩ j _ hj).trans (heap_setCell_other _ ⟨bb, 1, none⟩ j _ hj)).trans (heap_setCell_other _ ⟨bb, 0, none⟩ j _ hj)
  refine ⟨⟨h.below.os, h.below.tape, h.below.output, by simpa using h.below.size, fun j hj => (hh j (by omega)).trans (h.below.block j hj)⟩, by simpa using h.size, heap_setCell_same _ bb 2 _ _ _ (heap_setCell_same _ bb 1 _ _ _ (heap_setCell_same _ bb 0 _ _ _ h.best)), ?_⟩
  refine ⟨h.row.1, ?_⟩
  rcases h.row.2 with h3 | ⟨g, cap, cur, e, hB, hg, rest⟩
  · exact .inl h3
  · exact .inr ⟨g, cap, cur, e, hB, (hh g (by omega)).trans hg, rest⟩
/-- A list of stamps that came in. -/
abbrev InS (W : World) (q : Option Addr) (n : Nat) (pl : Nat → St) : Prop := ∀ i, i < n → ∃ g off, q = some ⟨g, off, none⟩ ∧ W.cell? ⟨g, off + i * 3, none⟩ = some (.int .i64 (pl i).1) ∧ W.cell? ⟨g, off + i * 3 + 1, none⟩ = some (.int .i64 (pl i).2.1) ∧ W.cell? ⟨g, off + i * 3 + 2, none⟩ = some (.int .i64 (pl i).2.2)
theorem InS.keep {W W' : World} {q : Option Addr} {n : Nat} {pl : Nat → St} (h : InS W q n pl) (hb : Below W.heap.size W W') : InS W' q n pl := fun i hi => by
  obtain ⟨g, off, e, e0, e1, e2⟩ := h i hi
  exact ⟨g, off, e, keepc hb e0, keepc hb e1, keepc hb e2⟩
theorem LsI.col {w W : World} {bb B : Nat} {pl : Nat → St} {k : Nat} {p : Option Addr} {cap : Nat} {y : St} (h : LsI w bb B pl k y (.slice p k cap) W) :
    ∀ i, i < k → ∃ g off u, p = some ⟨g, off, none⟩ ∧ W.heap[g]? = some u ∧ u.isCells = true ∧ W.cell? ⟨g, off + i * 3, none⟩ = some (.int .i64 (pl i).1) ∧ W.cell? ⟨g, off + i * 3 + 1, none⟩ = some (.int .i64 (pl i).2.1) ∧ W.cell? ⟨g, off + i * 3 + 2, none⟩ = some (.int .i64 (pl i).2.2) := by
  intro i hi
  rcases h.row.2 with ⟨e, e2⟩ | ⟨g, cap', cur, e, hB, hg, rest⟩
  · have : k = 0 := by first | (simpa using e2) | (rw [Value.slice.injEq] at e; omega) | omega
    omega
  · have hp : p = some ⟨g, 0, none⟩ := by
      simp at e
      exact e.1
    have hc := h.row.cells (g := g) (by rw [hp]; rfl)
    have h0 := hc (i * 3 + 0) _ (colS_at pl hi (j := 0) rfl)
    have h1 := hc (i * 3 + 1) _ (colS_at pl hi (j := 1) rfl)
    have h2 := hc (i * 3 + 2) _ (colS_at pl hi (j := 2) rfl)
    have ha : ∀ m, (⟨g, 0, none⟩ : Addr).add m = ⟨g, m, none⟩ := fun m => by
      unfold Addr.add
      by_cases h : m = 0 <;> simp [h]
    refine ⟨g, 0, _, hp, hg, rfl, ?_, ?_, ?_⟩
    · rw [ha] at h0; rw [show (⟨g, 0 + i * 3, none⟩ : Addr) = ⟨g, i * 3 + 0, none⟩ from by congr 1; omega]; exact h0
    · rw [ha] at h1; rw [show (⟨g, 0 + i * 3 + 1, none⟩ : Addr) = ⟨g, i * 3 + 1, none⟩ from by congr 1; omega]; exact h1
    · rw [ha] at h2; rw [show (⟨g, 0 + i * 3 + 2, none⟩ : Addr) = ⟨g, i * 3 + 2, none⟩ from by congr 1; omega]; exact h2

set_option maxHeartbeats 16000000 in
set_option maxRecDepth 100000 in
theorem sleast_c (q : Option Addr) (n cap : Nat) (pl : Nat → St) (hin : ∀ i, i < n → In3S (pl i)) (w : World) (hl : InS w q n pl) (he : Env w) :
    Calls Tryd.prog 6 #[.slice q n cap] w fun e w' => e = .returned (.bool true) ∧ Below w.heap.size w w' := by
  have mixed : Tryd.prog.follows .mixedOrders = true := by kernel_rfl
  have HE := Lib.hid he
  have HL := Lib.hid hl
  have HIN := Lib.hid hin
  obtain ⟨i0, hi0, hz0, hz1, hz2⟩ := info_parts infoSt
  clear he hl hin
  go_enter Tryd.func6, Tryd.ntmps6
  go_wp2_with fail
  refine (awake_c w HE.out).mono ?_
  rintro e w1 ⟨rfl, hb1⟩
  have HB1 := Lib.hid hb1
  clear hb1
  by_cases h1000 : n ≤ 1000
  · have hd : decide ((n : Int) > 1000) = false := decide_eq_false (by omega)
    go_wp2_with fail
    refine (r6never_c w1).mono ?_
    rintro e w2 ⟨rfl, hb2⟩
    obtain ⟨Wb, hWb⟩ : ∃ W, w2.alloc (.cells #[.int .i64 1, .int .i64 0, .int .i64 0] 25) = W := ⟨_, rfl⟩
    obtain ⟨bb, hbb⟩ : ∃ b, w2.heap.size = b := ⟨_, rfl⟩
    have hba : Below w2.heap.size w2 Wb := hWb ▸ bA' (Below.refl _ _) (Nat.le_refl _) _
    have hI : LsI w bb Wb.heap.size pl 0 (1, 0, 0) (.slice none 0 0) Wb := by
      refine ⟨bT' (bT' HB1.out hb2 HB1.out.size) hba (by have := HB1.out.size; have := hb2.size; omega), Nat.le_refl _, ?_, World.ownsRow_nil _ _ _ _⟩
      rw [← hWb, ← hbb]
      exact World.alloc_heap_new w2 _
    have hsz : bb < Wb.heap.size := (Array.getElem?_eq_some_iff.1 hI.best).1
    have hws : w.heap.size ≤ bb := by have := HB1.out.size; have := hb2.size; omega
    have HI := Lib.hid (And.intro hI (And.intro hsz hws))
    have HW := Lib.hid (And.intro hWb hbb)
    clear hI hsz hws hWb hbb hba hb2 hd
    go_wp2_with fail
    rw [HW.out.1]
    simp only [HW.out.2]
    go_loopw [4, 5] (fun av iv wr => ∃ k : Nat, iv = .int .i64 k ∧ k ≤ n ∧ Hid (LsI w bb Wb.heap.size pl k (bestS pl k) av wr)) (fun _ v _ => n - (intOf v).toNat)
    case atStart => exact ⟨0, rfl, Nat.zero_le _, Lib.hid HI.out.1⟩
    case round =>
      obtain ⟨k, rfl, hk, HP⟩ := hrel
      by_cases hlt : k < n
      · have hkz : (k : Int) < (n : Int) := by omega
        have hri : IntKind.i64.wrap ((k : Int) + 1) = ((k + 1 : Nat) : Int) := by rw [IntKind.wrap_i64]; omega
        have hk0 : (0 : Int) ≤ (k : Int) := by omega
        have hlw : InS wr q n pl := HL.out.keep HP.out.below
        obtain ⟨g, off, rfl, e0, e1, e2⟩ := hlw k hlt
        have hx1 := HIN.out k hlt
        have hy1 := bestS_in (pl := pl) (k := k) (fun i hi => HIN.out i (by omega))
        have HBS := Lib.hid (show bestS pl (k + 1) = if cmpSt (pl k) (bestS pl k) < 0 then pl k else bestS pl k from rfl)
        have HCO := Lib.hid (show colS pl (k + 1) = colS pl k ++ cS (pl k) from rfl)
        have hbest := HP.out.best
        obtain ⟨x, hx⟩ : ∃ x, pl k = x := ⟨_, rfl⟩
        obtain ⟨y, hy⟩ : ∃ y, bestS pl k = y := ⟨_, rfl⟩
        rw [hx] at e0 e1 e2 hx1 HBS HCO
        rw [hy] at hbest hy1 HBS
        have KR := Lib.hid (r6right_c x.1 x.2.1 x.2.2 hx1)
        have KC := Lib.hid (r6cmp_c x.1 x.2.1 x.2.2 y.1 y.2.1 y.2.2 hx1 hy1)
        have HX := Lib.hid (And.intro hx (And.intro hy (And.intro hlt (And.intro hlw hk))))
        clear hx hy hx1 hy1 hlw hbest hlt hk
        go_wp2_with fail
        refine (of_c _ _ _ _).mono ?_
        rintro e w5 ⟨rfl, hb5⟩
        have hp5 := HP.out.keep hb5
        rw [HX.out.2.1] at hp5
        have H5 := Lib.hid (And.intro hp5 (show Wb.heap.size ≤ w5.heap.size from hp5.size))
        clear hb5 hp5 e0 e1 e2
        go_wp2_with (at_builtin; refine wpList_append_own _ rfl _ _ 48 rfl Wb.heap.size 27 i0 (.agg #[.int .i64 0, .int .i64 0, .int .i64 0]) 3 24 Tryd.underlying48 hi0 hz0 hz1 hz2 rfl (by decide) _ _ _ rfl (H5.out.1.row.alloc _) ⟨w5.heap.size, 0, none⟩ 1 1 [.int .i64 x.1, .int .i64 x.2.1, .int .i64 x.2.2] rfl rfl (by
            have := World.ownsRow_lit (base := 0) (e := 27) (size := 3) w5 #[.int .i64 x.1, .int .i64 x.2.1, .int .i64 x.2.2] 1 (by omega) (by unfold maxLen; omega) rfl
            exact this.cells (g := w5.heap.size) (by simp [Value.ownBlock])) (by
            intro u hu
            simp only [List.mem_cons, List.not_mem_nil, or_false] at hu
            rcases hu with rfl | rfl | rfl <;> rfl) (by unfold maxLen; have := HX.out.2.2.1; omega) (by have := HX.out.2.2.1; omega) (by have := H5.out.2; simp; omega) ?_; intro v' w8 hown' hg8 hnil8)
        have h8 : LsI w bb Wb.heap.size pl (k + 1) y v' w8 := (H5.out.1.keep (bA' (Below.refl _ w5) (Nat.le_refl _) (.cells #[.int .i64 x.1, .int .i64 x.2.1, .int .i64 x.2.2] 27))).grow (by have := HI.out.2; omega) HI.out.2.1 hg8 (by rw [HX.out.1]; exact hown')
        have H8 := Lib.hid h8
        obtain ⟨g', off', hgo, e0, e1, e2⟩ := (HL.out.keep h8.below) k HX.out.2.2.1
        obtain ⟨rfl, rfl⟩ : g = g' ∧ off = off' := by simpa using hgo
        rw [HX.out.1] at e0 e1 e2
        obtain ⟨y0, y1, y2⟩ := cells3 h8.best (Below.refl _ _)
        clear h8 hown' hg8 hnil8 hgo H5
        go_wp2_with fail
        rcases Bool.eq_false_or_eq_true (sRight x.1 x.2.1 x.2.2) with r | r
        · rw [r] at KR
          clear r
          have HC := Lib.hid (show ∃ c, sCmp x.1 x.2.1 x.2.2 y.1 y.2.1 y.2.2 = c from ⟨_, rfl⟩)
          obtain ⟨c, hc⟩ := HC.out
          rw [hc] at KC
          have HCC := Lib.hid (show bestS pl (k + 1) = if c < 0 then x else y from by rw [HBS.out]; unfold cmpSt; rw [hc])
          clear HC hc
          go_region_held3 (fun w' => w'.cell? ⟨g, off + k * 3, none⟩ = some (.int .i64 x.1) ∧ w'.cell? ⟨g, off + k * 3 + 1, none⟩ = some (.int .i64 x.2.1) ∧ w'.cell? ⟨g, off + k * 3 + 2, none⟩ = some (.int .i64 x.2.2) ∧ w'.cell? ⟨bb, 0, none⟩ = some (.int .i64 y.1) ∧ w'.cell? ⟨bb, 1, none⟩ = some (.int .i64 y.2.1) ∧ w'.cell? ⟨bb, 2, none⟩ = some (.int .i64 y.2.2) ∧ Below w8.heap.size w8 w')
            (first | (go_split_ands; with_reducible exact ⟨keepc hb (by assumption), keepc hb (by assumption), keepc hb (by assumption), keepc hb (by assumption), keepc hb (by assumption), keepc hb (by assumption), belowT (by assumption) hb⟩) | exact ⟨e0, e1, e2, y0, y1, y2, Below.drew (Below.refl _ w8)⟩ | go_keep)
            (first
              | (go_at_call 14; refine (KR.out _).mono ?_; rintro e w9 ⟨rfl, hb⟩)
              | (go_at_call 15; refine (KC.out _).mono ?_; rintro e w9 ⟨rfl, hb⟩))
          all_goals go_split_ands
          all_goals
            have h9 : LsI w bb Wb.heap.size pl (k + 1) y v' w9 := H8.out.keep (by with_reducible assumption)
            have H9 := Lib.hid h9
            obtain ⟨g', off', hgo, e0, e1, e2⟩ := (HL.out.keep h9.below) k HX.out.2.2.1
            obtain ⟨rfl, rfl⟩ : g = g' ∧ off = off' := by simpa using hgo
            rw [HX.out.1] at e0 e1 e2
            by_cases hc : c < 0
            · have hd : decide (c < 0) = true := decide_eq_true hc
              have f0 := frozen_of_row _ bb 0 _ _ h9.best
              have f1 := frozen_of_row _ bb 1 _ _ h9.best
              have f2 := frozen_of_row _ bb 2 _ _ h9.best
              obtain ⟨y0, y1, y2⟩ := cells3 h9.best (Below.refl _ _)
              have HF := Lib.hid (show bestS pl (k + 1) = x from by rw [HCC.out, if_pos hc])
              clear h9 hgo
              go_wp2
              exact ⟨⟨k + 1, rfl, by have := HX.out.2.2.1; omega, Lib.hid (by rw [HF.out]; exact H9.out.put HI.out.2.2 HI.out.2.1 x)⟩, by have := HX.out.2.2.1; simp [intOf]; omega⟩
            · have hd : decide (c < 0) = false := decide_eq_false hc
              have HF := Lib.hid (show bestS pl (k + 1) = y from by rw [HCC.out, if_neg hc])
              clear h9 hgo
              go_wp2
              exact ⟨⟨k + 1, rfl, by have := HX.out.2.2.1; omega, Lib.hid (by rw [HF.out]; exact H9.out)⟩, by have := HX.out.2.2.1; simp [intOf]; omega⟩
        · rw [r] at KR
          have HF := Lib.hid (show bestS pl (k + 1) = y from by rw [HBS.out, if_neg]; unfold cmpSt; rw [sCmp_no (by rw [r]; exact fun h => absurd h.1 (by decide))]; decide)
          clear r
          first | go_region_with (first | (go_at_call 14; refine (KR.out _).mono ?_; rintro e w9 ⟨rfl, hb⟩)) | fail
          all_goals
            have h9 : LsI w bb Wb.heap.size pl (k + 1) y v' w9 := H8.out.keep (belowT (by repeat (first | with_reducible exact Below.refl _ _ | with_reducible refine Below.drew ?_ | with_reducible refine belowN ?_ _)) hb)
            have H9 := Lib.hid h9
            clear h9 hb e0 e1 e2 y0 y1 y2
            go_wp2
            exact ⟨⟨k + 1, rfl, by have := HX.out.2.2.1; omega, Lib.hid (by rw [HF.out]; exact H9.out)⟩, by have := HX.out.2.2.1; simp [intOf]; omega⟩
      · obtain rfl : k = n := by omega
        have hkz : ¬ ((k : Int) < (k : Int)) := by omega
        obtain ⟨x, hx⟩ : ∃ x, bestS pl k = x := ⟨_, rfl⟩
        have hbest := HP.out.best
        rw [hx] at hbest
        obtain ⟨p, cp, rfl⟩ : ∃ p cp, u4 = .slice p k cp := by
          rcases HP.out.row.2 with ⟨rfl, e⟩ | ⟨g, cap, cur, rfl, _⟩
          · exact ⟨none, 0, by first | rw [e] | (have : k = 0 := by omega); subst this; rfl⟩
          · exact ⟨_, _, rfl⟩
        obtain ⟨y0, y1, y2⟩ := cells3 hbest (Below.refl _ _)
        have KL := Lib.hid (fun (W : World) (hW : Below wr.heap.size wr W) (Bv : Nat) (hbx : W.heap[Bv]? = some (.cells #[.slice p k cp] 48 (0, 0))) => pleast_c Bv k cp p pl W h1000 HIN.out hbx (HP.out.keep hW).col)
        rw [hx] at KL
        have heq := eqR x.1 x.2.1 x.2.2 x.1 x.2.1 x.2.2
        rw [decide_eq_true (show x.1 = x.1 ∧ x.2.1 = x.2.1 ∧ x.2.2 = x.2.2 from ⟨rfl, rfl, rfl⟩)] at heq
        clear hbest hx
        go_wp2_with fail
        go_region_held3 (fun w' => w'.cell? ⟨bb, 0, none⟩ = some (.int .i64 x.1) ∧ w'.cell? ⟨bb, 1, none⟩ = some (.int .i64 x.2.1) ∧ w'.cell? ⟨bb, 2, none⟩ = some (.int .i64 x.2.2) ∧ Below wr.heap.size wr w')
          (first | (go_split_ands; with_reducible exact ⟨keepc hb (by assumption), keepc hb (by assumption), keepc hb (by assumption), belowT (by assumption) hb⟩) | exact ⟨y0, y1, y2, Below.drew (Below.refl _ wr)⟩ | go_keep)
          (first
            | (go_at_call 23; refine (values_c _ _ _ _).mono ?_; rintro e w6 ⟨rfl, hw6⟩; have hbx := hw6 ▸ World.alloc_heap_new _ (.cells #[.slice p k cp] 48); have hb := hw6 ▸ bA' (Below.refl _ _) (Nat.le_refl _) (.cells #[.slice p k cp] 48); clear hw6)
            | (go_at_call 22; refine (KL.out _ (by first | with_reducible assumption | (go_split_ands; with_reducible assumption)) _ (by assumption)).mono ?_; rintro e w7 ⟨rfl, hb⟩)
            | (go_at_call 20; refine (plain_c _ _ _ _).mono ?_; rintro e w8 ⟨rfl, hb⟩))
        all_goals go_split_ands
        all_goals
          have HZ := Lib.hid (HP.out.keep (C := w8) (by with_reducible assumption))
          go_wp2
          go_ret
          exact ⟨ret_bool (by simp), HZ.out.below⟩
  · have hd : decide ((n : Int) > 1000) = true := decide_eq_true (by omega)
    go_wp2_with fail
    refine (awake_c w1 (HE.out.keep HB1.out)).mono ?_
    rintro e w2 ⟨rfl, hb2⟩
    have HB2 := Lib.hid (bT' HB1.out hb2 HB1.out.size)
    clear hb2
    go_wp2
    go_ret
    exact ⟨rfl, HB2.out⟩
end Go.Proofs.YtmkclkppolfpnaaDoor
