/-
  track's At over this seat's translation. Conditions: those that each theorem states.
-/
import Derived.Test.YtibphmddepfgjaaT7I
namespace Go.Proofs.Ytibphmddepfgjaa.Tr
open Go.RowKit Go.Shelf Go.Lib Go.Sort

theorem below_set' {B : Nat} {a w : World} {k o : Nat} {u : Value} (h : Below B a w) (hk : B ≤ k) : Below B a (w.setCell ⟨k, o, none⟩ u) :=
  ⟨h.os, h.tape, h.output, by simpa using h.size, fun j hj => (heap_setCell_other _ ⟨k, o, none⟩ j u (by show j ≠ k; omega)).trans (h.block j hj)⟩
theorem at_yes {L : List En} {s : Sp} (h : Rise L) (hs : s.R = true) (h0 : 0 < nu L s) : atB L s = true ∧ atE L s = gE L (nu L s - 1) := by
  have h1 := up_split h hs
  have hne : upL L s ≠ [] := by
    intro e
    unfold nu at h0
    rw [e] at h0
    exact absurd h0 (Nat.lt_irrefl 0)
  have hB : atB L s = true := by
    unfold atB
    rw [hs]
    cases hu : upL L s with
    | nil => exact absurd hu hne
    | cons a l => rfl
  refine ⟨hB, ?_⟩
  unfold atE
  rw [if_pos hB]
  obtain ⟨A, hA⟩ : ∃ A, upL L s = A := ⟨_, rfl⟩
  obtain ⟨B, hBB⟩ : ∃ B, moreL L s = B := ⟨_, rfl⟩
  have hn : nu L s = A.length := by unfold nu; rw [hA]
  rw [hA, hBB] at h1
  rw [hA] at hne ⊢
  rw [hn] at h0 ⊢
  have h3 := gE_get (L := L) (k := A.length - 1) (by rw [h1, List.length_append]; omega)
  rw [h1, List.getElem?_append_left (by omega), ← h1] at h3
  have h4 : A.getLast? = some (gE L (A.length - 1)) := by rw [List.getLast?_eq_getElem?]; exact h3
  rw [List.getLastD_eq_getLast?, h4]
  rfl
theorem at_no {L : List En} {s : Sp} (h : s.R = true → nu L s = 0) : atB L s = false ∧ atE L s = ((0, 0, 0), 0) := by
  have hB : atB L s = false := by
    unfold atB
    by_cases hr : s.R = true
    · have := List.eq_nil_of_length_eq_zero (h hr)
      rw [this]
      simp
    · rw [Bool.eq_false_iff.2 hr]
      rfl
  refine ⟨hB, ?_⟩
  unfold atE
  rw [hB]
  rfl

/-- Three cells of a box written. -/
theorem set3 {w V : World} {B r : Nat} {u0 u1 u2 : Value} {t : TypeId} (hb : Below B w V) (hr : V.heap[r]? = some (.cells #[u0, u1, u2] t (0, 0))) (hB : B ≤ r) (a b c : Value) :
    Below B w (((V.setCell ⟨r, 0, none⟩ a).setCell ⟨r, 1, none⟩ b).setCell ⟨r, 2, none⟩ c).drew ∧ (((V.setCell ⟨r, 0, none⟩ a).setCell ⟨r, 1, none⟩ b).setCell ⟨r, 2, none⟩ c).drew.heap[r]? = some (.cells #[a, b, c] t (0, 0)) := by
  have h1 := heap_setCell_same V r 0 _ _ a hr
  have h2 := heap_setCell_same _ r 1 _ _ b h1
  have h3 := heap_setCell_same _ r 2 _ _ c h2
  exact ⟨Below.drew (below_set' (below_set' (below_set' hb hB) hB) hB), h3⟩
/-- What At answers. -/
def AtV (y : En) (t : Bool) (e : Ending) : Prop := e = .returned (.tuple #[y.1.v, .int .i64 y.2, .bool t])

set_option maxHeartbeats 16000000 in
set_option maxRecDepth 100000 in
theorem atT_c {W : World} {b k : Nat} {L : List En} {G : Option Nat} {v : Value} (h : TkS W b k L G v) (s : Sp) (hs : s.I) :
    Calls Try.prog 20 #[.pointer (some ⟨b, 0, none⟩), s.v] W fun e w' => AtV (atE L s) (atB L s) e ∧ Below W.heap.size W w' := by
  have mixed : Try.prog.follows .mixedOrders = true := by kernel_rfl
  obtain ⟨W1, hW1⟩ : ∃ W1, (W.alloc (.cells #[.int .i64 s.1, .int .i64 s.2.1, .int .i64 s.2.2] 33)).alloc (.cells #[.int .i64 0, .int .i64 0, .int .i64 0] 33) = W1 := ⟨_, rfl⟩
  have hb1 : Below W.heap.size W W1 := hW1 ▸ bA' (bA' (Below.refl _ _) (Nat.le_refl _) _) (by simp) _
  have hbx : W1.heap[W.heap.size]? = some (.cells #[.int .i64 s.1, .int .i64 s.2.1, .int .i64 s.2.2] 33 (0, 0)) := by
    rw [← hW1, Below.heap_alloc _ _ _ (by simp)]
    exact World.alloc_heap_new W _
  have hbr : W1.heap[W.heap.size + 1]? = some (.cells #[.int .i64 0, .int .i64 0, .int .i64 0] 33 (0, 0)) := by
    have := World.alloc_heap_new (W.alloc (.cells #[.int .i64 s.1, .int .i64 s.2.1, .int .i64 s.2.2] 33)) (.cells #[.int .i64 0, .int .i64 0, .int .i64 0] 33)
    rw [World.size_alloc] at this
    rw [← hW1]
    exact this
  have KM := Lib.hid (may_c (some ⟨b, 0, none⟩) s hs)
  have HO := Lib.hid (And.intro hb1 (And.intro hbx hbr))
  have HW := Lib.hid hW1
  have HH := Lib.hid (And.intro h hs)
  obtain ⟨x0, x1, x2⟩ := cells3 hbx (Below.refl _ _)
  by_cases hr : s.R = true
  · have KM2 := KM.out
    rw [show ((some (⟨b, 0, none⟩ : Addr)).isSome && s.R) = true from by rw [hr]; rfl] at KM2
    replace KM := Lib.hid KM2
    have KB := Lib.hid (fun W' (hb : Below W.heap.size W W') => upTo_c (h.below hb) s hs hr)
    have hle := nu_le h.rise hr
    have hroom := h.room
    have hyes := at_yes h.rise hr
    have hno := at_no (L := L) (s := s)
    obtain ⟨n, hn⟩ : ∃ n, nu L s = n := ⟨_, rfl⟩
    rw [hn] at hle KB hyes hno
    have HAT := Lib.hid (And.intro hyes (fun e : n = 0 => hno fun _ => e))
    clear KM2 hb1 hbx hbr hW1 h hs hr hn hyes hno
    go_enter Try.func20, Try.ntmps20
    go_wp2_with fail
    rw [HW.out]
    clear HW
    refine (KM.out _).mono ?_
    rintro e w2 ⟨rfl, hb2⟩
    have HB2 := Lib.hid (And.intro (bT' HO.out.1 hb2 HO.out.1.size) (And.intro (kbE HO.out.2.1 hb2) (kbE HO.out.2.2 hb2)))
    obtain ⟨x0, x1, x2⟩ := cells3 HB2.out.2.1 (Below.refl _ _)
    clear hb2
    go_wp2_with fail
    refine (KB.out _ HB2.out.1).mono ?_
    rintro e w3 ⟨rfl, hb3⟩
    have HB3 := Lib.hid (And.intro (bT' HB2.out.1 hb3 HB2.out.1.size) (kbE HB2.out.2.2 hb3))
    have h3 := HH.out.1.below HB3.out.1
    clear hb3 x0 x1 x2
    obtain ⟨z0, z1, z2⟩ := cells3 HB3.out.2 (Below.refl _ _)
    have f0 := frozen_of_row _ (W.heap.size + 1) 0 _ _ HB3.out.2
    have f1 := frozen_of_row _ (W.heap.size + 1) 1 _ _ HB3.out.2
    have f2 := frozen_of_row _ (W.heap.size + 1) 2 _ _ HB3.out.2
    by_cases h0 : 0 < n
    · have hd : decide ((n : Int) > 0) = true := decide_eq_true (by omega)
      have hd2 : decide (0 < n) = true := decide_eq_true h0
      obtain ⟨m, hm⟩ : ∃ m, n - 1 = m := ⟨_, rfl⟩
      have hml : m < L.length := by omega
      have hsub : IntKind.i64.wrap ((n : Int) - 1) = (m : Int) := by rw [IntKind.wrap_i64] <;> omega
      have hm0 : (0 : Int) ≤ (m : Int) := by omega
      have hmz : (m : Int) < (L.length : Int) := by omega
      obtain ⟨g, off, cap, hve, eG, e0, e1, e2, e3⟩ := entAt h3.ents hml
      have c0 : w3.cell? ⟨b, 0, none⟩ = some (.slice (some ⟨g, off, none⟩) L.length cap) := by rw [← hve]; exact (cell_two h3.box).1
      obtain ⟨y, hy⟩ : ∃ y, gE L m = y := ⟨_, rfl⟩
      have HY := Lib.hid (show atB L s = true ∧ atE L s = y from ⟨(HAT.out.1 h0).1, by rw [(HAT.out.1 h0).2, hm, hy]⟩)
      rw [hy] at e0 e1 e2 e3
      have hba : Below w3.heap.size w3 (w3.alloc (.cells #[.int .i64 0, .int .i64 0, .int .i64 0, .int .i64 0] 71)) := bA' (Below.refl _ _) (Nat.le_refl _) _
      replace c0 := kc' hba c0
      replace e0 := kc' hba e0
      replace e1 := kc' hba e1
      replace e2 := kc' hba e2
      replace e3 := kc' hba e3
      clear h3 hve eG hm hml hy h0 hba
      go_wp2_with fail
      obtain ⟨V, hV⟩ : ∃ V, w3.alloc (.cells #[.int .i64 y.1.1, .int .i64 y.1.2.1, .int .i64 y.1.2.2, .int .i64 y.2] 71) = V := ⟨_, rfl⟩
      rw [hV]
      obtain ⟨lb, hlb⟩ : ∃ lb, w3.heap.size = lb := ⟨_, rfl⟩
      obtain ⟨r, hr⟩ : ∃ r, W.heap.size + 1 = r := ⟨_, rfl⟩
      rw [hlb, hr]
      have hbV : Below w3.heap.size w3 V := hV ▸ bA' (Below.refl _ _) (Nat.le_refl _) _
      have hyb : V.heap[lb]? = some (.cells #[.int .i64 y.1.1, .int .i64 y.1.2.1, .int .i64 y.1.2.2, .int .i64 y.2] 71 (0, 0)) := by rw [← hV, ← hlb]; exact World.alloc_heap_new w3 _
      have hrb := kbE HB3.out.2 hbV
      rw [hr] at hrb
      have hne : lb ≠ r := by
        rintro rfl
        have := hyb.symm.trans hrb
        simp at this
      have hne2 : r ≠ lb := Ne.symm hne
      have HZ := Lib.hid (And.intro (bT' HB3.out.1 hbV HB3.out.1.size) (And.intro hrb (show W.heap.size ≤ r by omega)))
      clear z0 z1 z2 f0 f1 f2 c0 e0 e1 e2 e3
      obtain ⟨z0, z1, z2⟩ := cells3 hrb (Below.refl _ _)
      have f0 := frozen_of_row _ r 0 _ _ hrb
      have f1 := frozen_of_row _ r 1 _ _ hrb
      have f2 := frozen_of_row _ r 2 _ _ hrb
      have y0 : V.cell? ⟨lb, 0, none⟩ = some (.int .i64 y.1.1) := by unfold World.cell?; rw [hyb]; rfl
      have y1 : V.cell? ⟨lb, 1, none⟩ = some (.int .i64 y.1.2.1) := by unfold World.cell?; rw [hyb]; rfl
      have y2 : V.cell? ⟨lb, 2, none⟩ = some (.int .i64 y.1.2.2) := by unfold World.cell?; rw [hyb]; rfl
      have y3 : V.cell? ⟨lb, 3, none⟩ = some (.int .i64 y.2) := by unfold World.cell?; rw [hyb]; rfl
      clear hV hlb hr hbV hyb hrb
      go_region
      all_goals
        clear y0 y1 y2 y3 z0 z1 z2 f0 f1 f2
        obtain ⟨hfb, hfh⟩ := set3 HZ.out.1 HZ.out.2.1 HZ.out.2.2 (.int .i64 y.1.1) (.int .i64 y.1.2.1) (.int .i64 y.1.2.2)
        have HF := Lib.hid hfb
        have r0 : (((V.setCell ⟨r, 0, none⟩ (.int .i64 y.1.1)).setCell ⟨r, 1, none⟩ (.int .i64 y.1.2.1)).setCell ⟨r, 2, none⟩ (.int .i64 y.1.2.2)).drew.cell? ⟨r, 0, none⟩ = some (.int .i64 y.1.1) := (cells3 hfh (Below.refl _ _)).1
        have r1 : (((V.setCell ⟨r, 0, none⟩ (.int .i64 y.1.1)).setCell ⟨r, 1, none⟩ (.int .i64 y.1.2.1)).setCell ⟨r, 2, none⟩ (.int .i64 y.1.2.2)).drew.cell? ⟨r, 1, none⟩ = some (.int .i64 y.1.2.1) := (cells3 hfh (Below.refl _ _)).2.1
        have r2 : (((V.setCell ⟨r, 0, none⟩ (.int .i64 y.1.1)).setCell ⟨r, 1, none⟩ (.int .i64 y.1.2.1)).setCell ⟨r, 2, none⟩ (.int .i64 y.1.2.2)).drew.cell? ⟨r, 2, none⟩ = some (.int .i64 y.1.2.2) := (cells3 hfh (Below.refl _ _)).2.2
        clear hfb hfh
        generalize (((V.setCell ⟨r, 0, none⟩ (.int .i64 y.1.1)).setCell ⟨r, 1, none⟩ (.int .i64 y.1.2.1)).setCell ⟨r, 2, none⟩ (.int .i64 y.1.2.2)).drew = X at *
        go_wp2
        refine bodyPost_ret (v := .tuple #[stV y.1.1 y.1.2.1 y.1.2.2, .int .i64 y.2, .bool true]) (by simp [results, Try.results20, go_sem, r0, r1, r2]) rfl ⟨?_, HF.out⟩
        rw [HY.out.1, HY.out.2]
        rfl
    · have hd : decide ((n : Int) > 0) = false := decide_eq_false (by omega)
      have hd2 : decide (0 < n) = false := decide_eq_false h0
      have HY := Lib.hid (HAT.out.2 (by omega))
      clear h3 h0
      go_wp2_with fail
      obtain ⟨V, hV⟩ : ∃ V, w3.alloc (.cells #[.int .i64 0, .int .i64 0, .int .i64 0, .int .i64 0] 71) = V := ⟨_, rfl⟩
      rw [hV]
      obtain ⟨lb, hlb⟩ : ∃ lb, w3.heap.size = lb := ⟨_, rfl⟩
      obtain ⟨r, hr⟩ : ∃ r, W.heap.size + 1 = r := ⟨_, rfl⟩
      rw [hlb, hr]
      have hbV : Below w3.heap.size w3 V := hV ▸ bA' (Below.refl _ _) (Nat.le_refl _) _
      have hyb : V.heap[lb]? = some (.cells #[.int .i64 0, .int .i64 0, .int .i64 0, .int .i64 0] 71 (0, 0)) := by rw [← hV, ← hlb]; exact World.alloc_heap_new w3 _
      have hrb := kbE HB3.out.2 hbV
      rw [hr] at hrb
      have hne : lb ≠ r := by
        rintro rfl
        have := hyb.symm.trans hrb
        simp at this
      have hne2 : r ≠ lb := Ne.symm hne
      have HZ := Lib.hid (And.intro (bT' HB3.out.1 hbV HB3.out.1.size) (And.intro hrb (show W.heap.size ≤ r by omega)))
      clear z0 z1 z2 f0 f1 f2
      obtain ⟨z0, z1, z2⟩ := cells3 hrb (Below.refl _ _)
      have f0 := frozen_of_row _ r 0 _ _ hrb
      have f1 := frozen_of_row _ r 1 _ _ hrb
      have f2 := frozen_of_row _ r 2 _ _ hrb
      have y0 : V.cell? ⟨lb, 0, none⟩ = some (.int .i64 0) := by unfold World.cell?; rw [hyb]; rfl
      have y1 : V.cell? ⟨lb, 1, none⟩ = some (.int .i64 0) := by unfold World.cell?; rw [hyb]; rfl
      have y2 : V.cell? ⟨lb, 2, none⟩ = some (.int .i64 0) := by unfold World.cell?; rw [hyb]; rfl
      have y3 : V.cell? ⟨lb, 3, none⟩ = some (.int .i64 0) := by unfold World.cell?; rw [hyb]; rfl
      clear hV hlb hr hbV hyb hrb
      go_region
      all_goals
        clear y0 y1 y2 y3 z0 z1 z2 f0 f1 f2
        obtain ⟨hfb, hfh⟩ := set3 HZ.out.1 HZ.out.2.1 HZ.out.2.2 (.int .i64 0) (.int .i64 0) (.int .i64 0)
        have HF := Lib.hid hfb
        have r0 : (((V.setCell ⟨r, 0, none⟩ (.int .i64 0)).setCell ⟨r, 1, none⟩ (.int .i64 0)).setCell ⟨r, 2, none⟩ (.int .i64 0)).drew.cell? ⟨r, 0, none⟩ = some (.int .i64 0) := (cells3 hfh (Below.refl _ _)).1
        have r1 : (((V.setCell ⟨r, 0, none⟩ (.int .i64 0)).setCell ⟨r, 1, none⟩ (.int .i64 0)).setCell ⟨r, 2, none⟩ (.int .i64 0)).drew.cell? ⟨r, 1, none⟩ = some (.int .i64 0) := (cells3 hfh (Below.refl _ _)).2.1
        have r2 : (((V.setCell ⟨r, 0, none⟩ (.int .i64 0)).setCell ⟨r, 1, none⟩ (.int .i64 0)).setCell ⟨r, 2, none⟩ (.int .i64 0)).drew.cell? ⟨r, 2, none⟩ = some (.int .i64 0) := (cells3 hfh (Below.refl _ _)).2.2
        clear hfb hfh
        generalize (((V.setCell ⟨r, 0, none⟩ (.int .i64 0)).setCell ⟨r, 1, none⟩ (.int .i64 0)).setCell ⟨r, 2, none⟩ (.int .i64 0)).drew = X at *
        go_wp2
        refine bodyPost_ret (v := .tuple #[stV 0 0 0, .int .i64 0, .bool false]) (by simp [results, Try.results20, go_sem, r0, r1, r2]) rfl ⟨?_, HF.out⟩
        rw [HY.out.1, HY.out.2]
        rfl
  · have hr2 : s.R = false := Bool.eq_false_iff.2 hr
    have KM2 := KM.out
    rw [show ((some (⟨b, 0, none⟩ : Addr)).isSome && s.R) = false from by rw [hr2]; rfl] at KM2
    replace KM := Lib.hid KM2
    have HY := Lib.hid (at_no (L := L) (s := s) fun e => absurd e hr)
    clear KM2 hb1 hbx hbr hW1 h hs hr hr2
    go_enter Try.func20, Try.ntmps20
    go_wp2_with fail
    rw [HW.out]
    clear HW
    refine (KM.out _).mono ?_
    rintro e w3 ⟨rfl, hb3⟩
    have HB3 := Lib.hid (And.intro (bT' HO.out.1 hb3 HO.out.1.size) (kbE HO.out.2.2 hb3))
    clear hb3 x0 x1 x2
    go_wp2_with fail
    obtain ⟨V, hV⟩ : ∃ V, w3.alloc (.cells #[.int .i64 0, .int .i64 0, .int .i64 0, .int .i64 0] 71) = V := ⟨_, rfl⟩
    rw [hV]
    obtain ⟨lb, hlb⟩ : ∃ lb, w3.heap.size = lb := ⟨_, rfl⟩
    obtain ⟨r, hr⟩ : ∃ r, W.heap.size + 1 = r := ⟨_, rfl⟩
    rw [hlb, hr]
    have hbV : Below w3.heap.size w3 V := hV ▸ bA' (Below.refl _ _) (Nat.le_refl _) _
    have hyb : V.heap[lb]? = some (.cells #[.int .i64 0, .int .i64 0, .int .i64 0, .int .i64 0] 71 (0, 0)) := by rw [← hV, ← hlb]; exact World.alloc_heap_new w3 _
    have hrb := kbE HB3.out.2 hbV
    rw [hr] at hrb
    have hne : lb ≠ r := by
      rintro rfl
      have := hyb.symm.trans hrb
      simp at this
    have hne2 : r ≠ lb := Ne.symm hne
    have HZ := Lib.hid (And.intro (bT' HB3.out.1 hbV HB3.out.1.size) (And.intro hrb (show W.heap.size ≤ r by omega)))
    skip
    obtain ⟨z0, z1, z2⟩ := cells3 hrb (Below.refl _ _)
    have f0 := frozen_of_row _ r 0 _ _ hrb
    have f1 := frozen_of_row _ r 1 _ _ hrb
    have f2 := frozen_of_row _ r 2 _ _ hrb
    have y0 : V.cell? ⟨lb, 0, none⟩ = some (.int .i64 0) := by unfold World.cell?; rw [hyb]; rfl
    have y1 : V.cell? ⟨lb, 1, none⟩ = some (.int .i64 0) := by unfold World.cell?; rw [hyb]; rfl
    have y2 : V.cell? ⟨lb, 2, none⟩ = some (.int .i64 0) := by unfold World.cell?; rw [hyb]; rfl
    have y3 : V.cell? ⟨lb, 3, none⟩ = some (.int .i64 0) := by unfold World.cell?; rw [hyb]; rfl
    clear hV hlb hr hbV hyb hrb
    go_region
    all_goals
      clear y0 y1 y2 y3 z0 z1 z2 f0 f1 f2
      obtain ⟨hfb, hfh⟩ := set3 HZ.out.1 HZ.out.2.1 HZ.out.2.2 (.int .i64 0) (.int .i64 0) (.int .i64 0)
      have HF := Lib.hid hfb
      have r0 : (((V.setCell ⟨r, 0, none⟩ (.int .i64 0)).setCell ⟨r, 1, none⟩ (.int .i64 0)).setCell ⟨r, 2, none⟩ (.int .i64 0)).drew.cell? ⟨r, 0, none⟩ = some (.int .i64 0) := (cells3 hfh (Below.refl _ _)).1
      have r1 : (((V.setCell ⟨r, 0, none⟩ (.int .i64 0)).setCell ⟨r, 1, none⟩ (.int .i64 0)).setCell ⟨r, 2, none⟩ (.int .i64 0)).drew.cell? ⟨r, 1, none⟩ = some (.int .i64 0) := (cells3 hfh (Below.refl _ _)).2.1
      have r2 : (((V.setCell ⟨r, 0, none⟩ (.int .i64 0)).setCell ⟨r, 1, none⟩ (.int .i64 0)).setCell ⟨r, 2, none⟩ (.int .i64 0)).drew.cell? ⟨r, 2, none⟩ = some (.int .i64 0) := (cells3 hfh (Below.refl _ _)).2.2
      clear hfb hfh
      generalize (((V.setCell ⟨r, 0, none⟩ (.int .i64 0)).setCell ⟨r, 1, none⟩ (.int .i64 0)).setCell ⟨r, 2, none⟩ (.int .i64 0)).drew = X at *
      go_wp2
      refine bodyPost_ret (v := .tuple #[stV 0 0 0, .int .i64 0, .bool false]) (by simp [results, Try.results20, go_sem, r0, r1, r2]) rfl ⟨?_, HF.out⟩
      rw [HY.out.1, HY.out.2]
      rfl
end Go.Proofs.Ytibphmddepfgjaa.Tr
