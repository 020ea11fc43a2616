/-
  The document's example of layer 7 (awake) over this seat's translation. No condition.
-/
import Derived.Test.YtibphmddepfgjaaT7O
namespace Go.Proofs.Ytibphmddepfgjaa.Tr
open Go.RowKit Go.Shelf Go.Lib Go.Sort

set_option maxHeartbeats 1000000 in
theorem whole_c (n : Int) (w : World) : Calls Try.prog 24 #[.int .i64 n] w fun e w' => e = .returned (stV n 1 0) ∧ Below w.heap.size w w' := by
  have HB := Lib.hid (Below.refl w.heap.size w)
  go_enter Try.func24, Try.ntmps24
  go_wp2
  first
    | (go_ret; exact ⟨rfl, HB.out⟩)
    | exact bodyPost_ret (v := stV n 1 0) (by simp [results, Try.results24, go_sem]) rfl ⟨rfl, bA' HB.out (Nat.le_refl _) _⟩

def L1 : List En := [((1, 1, 0), 10)]
def L2 : List En := [((1, 1, 0), 10), ((2, 1, 0), 20)]
def L3 : List En := [((1, 1, 0), 10), ((2, 1, 0), 20), ((3, 1, 0), 30)]
theorem w1 : putE 5 [] (1, 1, 0) = 0 ∧ putL 5 [] (1, 1, 0) 10 = L1 := by
  have h : putE 5 [] (1, 1, 0) = 0 := putE_of (by decide) (by decide) (fun a h => by cases h) (by decide)
  exact ⟨h, by unfold putL; rw [if_pos h]; rfl⟩
theorem c12 : cmp (1, 1, 0) (2, 1, 0) < 0 := by decide +kernel
theorem c23 : cmp (2, 1, 0) (3, 1, 0) < 0 := by decide +kernel
theorem w2 : putE 5 L1 (2, 1, 0) = 0 ∧ putL 5 L1 (2, 1, 0) 20 = L2 := by
  have h : putE 5 L1 (2, 1, 0) = 0 := putE_of (by decide) (by decide) (fun a h => by
    have : a = ((1, 1, 0), 10) := by simpa [L1] using h.symm
    rw [this]
    exact c12) (by decide)
  exact ⟨h, by unfold putL; rw [if_pos h]; rfl⟩
theorem w3 : putE 5 L2 (3, 1, 0) = 0 ∧ putL 5 L2 (3, 1, 0) 30 = L3 := by
  have h : putE 5 L2 (3, 1, 0) = 0 := putE_of (by decide) (by decide) (fun a h => by
    have : a = ((2, 1, 0), 20) := by simpa [L2] using h.symm
    rw [this]
    exact c23) (by decide)
  exact ⟨h, by unfold putL; rw [if_pos h]; rfl⟩
theorem w4 : atE L3 (2, 1, 1) = ((2, 1, 0), 20) ∧ atB L3 (2, 1, 1) = true := by decide +kernel
theorem w5 : backL L3 (2, 1, 0) = L2 ∧ backX L3 (2, 1, 0) = [30] := by decide +kernel
theorem w6 : freeL L2 (2, 1, 0) = [((2, 1, 0), 20)] ∧ freeX L2 (2, 1, 0) = [10] := by decide +kernel

set_option maxHeartbeats 16000000 in
set_option maxRecDepth 100000 in
theorem awake_c (w : World) : Calls Try.prog 8 #[] w fun e w' => e = .returned (.bool true) ∧ Below w.heap.size w w' := by
  have mixed : Try.prog.follows .mixedOrders = true := by kernel_rfl
  have heq := eqP 2 1 0 2 1 0
  simp only [and_self, decide_true] at heq
  have K0 := tkC.new 5 w (by decide) (by decide)
  go_enter Try.func8, Try.ntmps8
  go_wp2_with fail
  refine K0.mono ?_
  rintro e a1 ⟨b, F, rfl, hT, hF, hb⟩
  have HL : Hid (∃ F, Law Tk w b 5 [] F a1) := Lib.hid ⟨F, hT, hF, hb⟩
  clear hT hF hb K0
  go_wp2_with fail
  refine (whole_c 1 _).mono ?_
  rintro e a2 ⟨rfl, hb⟩
  obtain ⟨F1, hL⟩ := HL.out
  have hL2 := hL.keep tkC hb
  have K := tkC.put (1, 1, 0) 10 hL2.tk ⟨by decide, by decide, by decide⟩ (by constructor <;> decide)
  rw [w1.1, w1.2] at K
  have HK := Lib.hid K
  replace HL : Hid (Law Tk w b 5 [] F1 a2) := Lib.hid hL2
  clear hb hL hL2 K
  go_wp2_with fail
  refine HK.out.mono ?_
  rintro e a3 ⟨rfl, F2, hT, hw, hl⟩
  replace HL := Lib.hid (HL.out.turn hT hw hl)
  clear hT hw hl HK
  go_wp2_with fail
  refine (whole_c 2 _).mono ?_
  rintro e a4 ⟨rfl, hb⟩
  replace HL := Lib.hid (HL.out.keep tkC hb)
  have K := tkC.put (2, 1, 0) 20 HL.out.tk ⟨by decide, by decide, by decide⟩ (by constructor <;> decide)
  rw [w2.1, w2.2] at K
  have HK := Lib.hid K
  clear hb K
  go_wp2_with fail
  refine HK.out.mono ?_
  rintro e a5 ⟨rfl, F3, hT, hw, hl⟩
  replace HL := Lib.hid (HL.out.turn hT hw hl)
  clear hT hw hl HK
  go_wp2_with fail
  refine (whole_c 3 _).mono ?_
  rintro e a6 ⟨rfl, hb⟩
  replace HL := Lib.hid (HL.out.keep tkC hb)
  have K := tkC.put (3, 1, 0) 30 HL.out.tk ⟨by decide, by decide, by decide⟩ (by constructor <;> decide)
  rw [w3.1, w3.2] at K
  have HK := Lib.hid K
  clear hb K
  go_wp2_with fail
  refine HK.out.mono ?_
  rintro e a7 ⟨rfl, F4, hT, hw, hl⟩
  replace HL := Lib.hid (HL.out.turn hT hw hl)
  have K := tkC.at_ (2, 1, 1) HL.out.tk ⟨by decide, by decide, by decide⟩
  rw [w4.1, w4.2] at K
  replace HK := Lib.hid K
  clear hT hw hl K
  go_wp2_with fail
  refine HK.out.mono ?_
  rintro e a8 ⟨rfl, hb⟩
  replace HL := Lib.hid (HL.out.keep tkC hb)
  have hba : Below a8.heap.size a8 (a8.alloc (.cells #[.int .i64 2, .int .i64 1, .int .i64 0] 33)) := bA' (Below.refl _ _) (Nat.le_refl _) _
  have HS := Lib.hid (show (a8.alloc (.cells #[.int .i64 2, .int .i64 1, .int .i64 0] 33)).heap[a8.heap.size]? = some (.cells #[.int .i64 2, .int .i64 1, .int .i64 0] 33 (0, 0)) from World.alloc_heap_new a8 _)
  have HSF := Lib.hid (show ∀ y, F4 y → y < a8.heap.size from fun y hy => tkC.lt HL.out.tk y hy)
  replace HL := Lib.hid (HL.out.keep tkC hba)
  clear hb HK hba
  go_wp2_with fail
  refine (whole_c 2 _).mono ?_
  rintro e a9 ⟨rfl, hb⟩
  replace HL := Lib.hid (HL.out.keep tkC hb)
  replace HS := Lib.hid (kbE HS.out hb)
  have K := tkC.back (2, 1, 0) HL.out.tk ⟨by decide, by decide, by decide⟩
  rw [w5.1, w5.2] at K
  have HK := Lib.hid K
  clear hb K
  go_wp2_with fail
  refine HK.out.mono ?_
  rintro e c1 ⟨pb, cb, F5, rfl, hin, hfar, hT, hw, hl⟩
  obtain ⟨gb, ob, rfl, hcb⟩ := numAt hin (i := 0) (x := 30) rfl
  have hgb := hfar gb ob rfl (by decide)
  have hS2 := (hl.same a8.heap.size (Array.getElem?_eq_some_iff.1 HS.out).1 fun k => by have := HSF.out _ k; omega).trans HS.out
  have HSF5 := Lib.hid (show ∀ y, F5 y → y ≠ a8.heap.size ∧ y ≠ gb from fun y hy => ⟨fun e => by
    rcases hw y hy with h | h
    · have := HSF.out y h; omega
    · have := (Array.getElem?_eq_some_iff.1 HS.out).1
      omega, fun e => hgb.1 (e ▸ hy)⟩)
  replace HL := Lib.hid (HL.out.turn hT hw hl)
  replace HS := Lib.hid hS2
  have HC := Lib.hid (show c1.cell? ⟨gb, ob, none⟩ = some (.int .i64 30) from hcb)
  clear hin hfar hT hw hl hcb hgb hS2 HK
  go_wp2_with fail
  refine (whole_c 2 _).mono ?_
  rintro e c2 ⟨rfl, hb⟩
  replace HL := Lib.hid (HL.out.keep tkC hb)
  replace HS := Lib.hid (kbE HS.out hb)
  replace HC := Lib.hid (keepc hb HC.out)
  have K := tkC.free (2, 1, 0) HL.out.tk ⟨by decide, by decide, by decide⟩
  rw [w6.1, w6.2] at K
  have HK := Lib.hid K
  clear hb K
  go_wp2_with fail
  refine HK.out.mono ?_
  rintro e c3 ⟨pf, cf, F6, rfl, hin, hfar, hT, hw, hl⟩
  obtain ⟨gf, of, rfl, hcf⟩ := numAt hin (i := 0) (x := 10) rfl
  have s3 := (hl.same a8.heap.size (Array.getElem?_eq_some_iff.1 HS.out).1 fun k => (HSF5.out _ k).1 rfl).trans HS.out
  have b3 : c3.cell? ⟨gb, ob, none⟩ = some (.int .i64 30) := (World.cell?_of_block (hl.same gb (World.block_lt_of_cell? _ _ HC.out) fun k => (HSF5.out _ k).2 rfl)).trans HC.out
  have f3 : c3.cell? ⟨gf, of, none⟩ = some (.int .i64 10) := hcf
  replace HL := Lib.hid (HL.out.turn hT hw hl)
  obtain ⟨x0, x1, x2⟩ := cells3 s3 (Below.refl _ _)
  clear hin hfar hT hw hl hcf s3 HK
  go_wp2_with fail
  go_region_held3 (fun w' => w'.cell? ⟨a8.heap.size, 0, none⟩ = some (.int .i64 2) ∧ w'.cell? ⟨a8.heap.size, 1, none⟩ = some (.int .i64 1) ∧ w'.cell? ⟨a8.heap.size, 2, none⟩ = some (.int .i64 0) ∧ w'.cell? ⟨gb, ob, none⟩ = some (.int .i64 30) ∧ w'.cell? ⟨gf, of, none⟩ = some (.int .i64 10) ∧ Below c3.heap.size c3 w')
    (first | (go_split_ands; with_reducible exact ⟨keepc hb (by assumption), keepc hb (by assumption), keepc hb (by assumption), keepc hb (by assumption), keepc hb (by assumption), belowT (by assumption) hb⟩) | exact ⟨x0, x1, x2, b3, f3, Below.drew (Below.refl _ c3)⟩ | go_keep)
    (first
      | (go_at_call 24; refine (whole_c 2 _).mono ?_; rintro e w6 ⟨rfl, hb⟩))
  all_goals go_split_ands
  all_goals have HB := Lib.hid (show Below c3.heap.size c3 w6 from by with_reducible assumption)
  all_goals clear x0 x1 x2 b3 f3
  all_goals go_wp2
  all_goals go_ret
  all_goals exact ⟨rfl, bT' HL.out.below HB.out HL.out.below.size⟩
end Go.Proofs.Ytibphmddepfgjaa.Tr
