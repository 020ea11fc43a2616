/-
  Queues of one's own, and gavottelaw05's awake over this seat's translation. Conditions: those that each theorem states.
-/
import Derived.Test.YtgolbeoaomgmcaaQuF
namespace Go.Proofs.Ytgolbeoaomgmcaa
open Go.RowKit Go.Shelf Go.Lib Go.Sort Qu

/-- A queue whose blocks are blocks from B on. -/
structure Own (B : Nat) (W : World) (q : Nat) (p : Option Addr) (k : Nat) (xs : List Int) : Prop where
  que : ∃ R f, QueS W q p R f k xs
  b1 : B ≤ q
  b2 : ∀ g, blk p = some g → B ≤ g
theorem Own.below {B : Nat} {W W' : World} {q : Nat} {p : Option Addr} {k : Nat} {xs : List Int} (h : Own B W q p k xs) (hb : Below W.heap.size W W') : Own B W' q p k xs := by
  obtain ⟨R, f, hq⟩ := h.que
  exact ⟨⟨R, f, hq.below hb⟩, h.b1, h.b2⟩
theorem Own.lt {B : Nat} {W : World} {q : Nat} {p : Option Addr} {k : Nat} {xs : List Int} (h : Own B W q p k xs) : q < W.heap.size ∧ ∀ g, blk p = some g → g < W.heap.size := by
  obtain ⟨R, f, hq⟩ := h.que
  exact ⟨hq.lt, fun g e => (Array.getElem?_eq_some_iff.1 (hq.at e).2).1⟩
theorem Own.box {B : Nat} {W : World} {q : Nat} {p : Option Addr} {k : Nat} {xs : List Int} (h : Own B W q p k xs) : W.cell? ⟨q, 2, none⟩ = some (.int .i64 xs.length) ∧ 1 ≤ k ∧ k ≤ 1048576 ∧ xs.length ≤ k := by
  obtain ⟨R, f, hq⟩ := h.que
  exact ⟨(cell_four hq.box).2.2.1, hq.room.1, hq.room.2.1, hq.len.1⟩
/-- What is done to one the other one does not see. -/
theorem Own.apart {B : Nat} {W W' : World} {q q2 : Nat} {p p2 : Option Addr} {k k2 : Nat} {xs xs2 : List Int} (h : Own B W q p k xs) (h2 : Own B W q2 p2 k2 xs2) (ht : Touch q2 (blk p2) W W') (hq : q ≠ q2) (hp : ∀ g, blk p = some g → blk p2 ≠ some g) : Own B W' q p k xs := by
  obtain ⟨R, f, hs⟩ := h.que
  obtain ⟨R2, f2, hs2⟩ := h2.que
  refine ⟨⟨R, f, hs.same (ht.block q hs.lt hq fun e => ?_) fun g e => ht.block g (h.lt.2 g e) ?_ fun e2 => hp g e e2.symm⟩, h.b1, h.b2⟩
  · have := hs.box.symm.trans (hs2.at e.symm).2
    simp [rowO] at this
  · rintro rfl
    have := hs2.box.symm.trans (hs.at e).2
    simp [rowO] at this

/-- What Push answers, and what it comes to. -/
def pushR (k : Nat) (xs : List Int) : Int := if xs.length < k then 0 else 14
def pushT (k : Nat) (xs : List Int) (x : Int) : List Int := if xs.length < k then xs ++ [x] else xs
theorem push_o {B q k : Nat} {p : Option Addr} {xs : List Int} {w : World} (x : Int) (h : Own B w q p k xs) (hB : B ≤ w.heap.size) :
    Calls Try.prog 9 #[.pointer (some ⟨q, 0, none⟩), .int .i64 x] w fun e w' => e = .returned (.int .i64 (pushR k xs)) ∧ ∃ p', Own B w' q p' k (pushT k xs x) ∧ Touch q (blk p) w w' ∧ New p p' w ∧ Below B w w' := by
  obtain ⟨R, f, hq⟩ := h.que
  unfold pushR pushT
  by_cases hlt : xs.length < k
  · rw [if_pos hlt, if_pos hlt]
    refine (push_c x hq hlt).mono ?_
    rintro e w' ⟨he, p', R', f', h1, h2, h3⟩
    refine ⟨he, p', ⟨⟨R', f', h1⟩, h.b1, fun g e => ?_⟩, h2, h3, h2.below_of hB h.b1 fun g e => h.b2 g e⟩
    rcases h3 with rfl | h3
    · exact h.b2 g e
    · exact Nat.le_trans hB (h3 g e)
  · rw [if_neg hlt, if_neg hlt]
    refine (pushFull_c x hq hlt).mono ?_
    rintro e w' ⟨he, hG⟩
    exact ⟨he, p, h.below hG.below, Touch.below hG.below, .inl rfl, (Touch.below (b := q) (row := none) hG.below).below_of hB h.b1 (fun g e => by cases e)⟩
theorem pop_o {B q k : Nat} {p : Option Addr} {xs : List Int} {w : World} (h : Own B w q p k xs) (hB : B ≤ w.heap.size) :
    Calls Try.prog 11 #[.pointer (some ⟨q, 0, none⟩)] w fun e w' => e = .returned (.tuple #[.int .i64 (gI xs 0), .bool (decide (0 < xs.length))]) ∧ Own B w' q p k xs.tail ∧ Touch q (blk p) w w' ∧ Below B w w' := by
  obtain ⟨R, f, hq⟩ := h.que
  cases xs with
  | nil =>
    refine (popNo_c (cell_four hq.box).2.2.1).mono ?_
    rintro e w' ⟨he, rfl⟩
    exact ⟨he, h, Touch.below (Below.refl _ _), Below.refl _ _⟩
  | cons x xs =>
    refine (pop_c hq).mono ?_
    rintro e w' ⟨he, R', f', h1, h2⟩
    exact ⟨he, ⟨⟨R', f', h1⟩, h.b1, h.b2⟩, h2, h2.below_of hB h.b1 fun g e => h.b2 g e⟩
theorem peek_o {B q k : Nat} {p : Option Addr} {xs : List Int} {w : World} (h : Own B w q p k xs) :
    Calls Try.prog 14 #[.pointer (some ⟨q, 0, none⟩)] w fun e w' => e = .returned (.tuple #[.int .i64 (gI xs 0), .bool (decide (0 < xs.length))]) ∧ Below w.heap.size w w' := by
  obtain ⟨R, f, hq⟩ := h.que
  cases xs with
  | nil =>
    refine (peekNo_c (cell_four hq.box).2.2.1).mono ?_
    rintro e w' ⟨he, rfl⟩
    exact ⟨he, Below.refl _ _⟩
  | cons x xs => exact (peek_c hq).mono fun _ _ ⟨h1, h2⟩ => ⟨h1, h2.below⟩
theorem len_o {B q k : Nat} {p : Option Addr} {xs : List Int} {w : World} (h : Own B w q p k xs) :
    Calls Try.prog 10 #[.pointer (some ⟨q, 0, none⟩)] w fun e w' => e = .returned (.int .i64 xs.length) ∧ w = w' := len_c q _ w h.box.1
theorem copy_o {B q k : Nat} {p : Option Addr} {xs : List Int} {w : World} (h : Own B w q p k xs) (hB : B ≤ w.heap.size) :
    Calls Try.prog 15 #[.pointer (some ⟨q, 0, none⟩)] w fun e w' => ∃ c g, e = .returned (.pointer (some ⟨c, 0, none⟩)) ∧ Own B w' c (some ⟨g, 0, none⟩) k xs ∧ w.heap.size ≤ c ∧ w.heap.size ≤ g ∧ Below w.heap.size w w' := by
  obtain ⟨R, f, hq⟩ := h.que
  refine (copy_c hq).mono ?_
  rintro e w' ⟨c, g, he, h1, h2, h3, h4⟩
  exact ⟨c, g, he, ⟨⟨_, _, h3⟩, Nat.le_trans hB h1, fun g' e => by simp [blk] at e; omega⟩, h1, h2, h4⟩
theorem new_o (k : Int) (hk : 1 ≤ k ∧ k ≤ 1048576) (w : World) : Calls Try.prog 8 #[.int .i64 k] w fun e w' =>
    ∃ q, e = .returned (.tuple #[.pointer (some ⟨q, 0, none⟩), .int .i64 0]) ∧ Own w.heap.size w' q none k.toNat [] ∧ Below w.heap.size w w' :=
  (new_c k hk w).mono fun _ _ ⟨h1, h2, h3⟩ => ⟨w.heap.size, h1, ⟨⟨_, _, h2⟩, Nat.le_refl _, fun g e => by cases e⟩, h3⟩

set_option maxHeartbeats 8000000 in
set_option maxRecDepth 100000 in
theorem awake_c (w : World) : Calls Try.prog 7 #[] w fun e w' => e = .returned (.bool true) ∧ Below w.heap.size w w' := by
  have KN := new_o 2 (by decide) w
  go_enter Try.func7, Try.ntmps7
  go_wp2_with fail
  refine KN.mono ?_
  rintro e wa ⟨q, rfl, ho, hba⟩
  have KS := push_o 1 ho hba.size
  have HB := Lib.hid hba
  clear hba ho KN
  go_wp2_with fail
  refine KS.mono ?_
  rintro e wb ⟨rfl, p1, ho, _, _, hl⟩
  have hl := HB.out.trans hl
  have KS := push_o 2 ho hl.size
  have HB := Lib.hid hl
  clear hl ho
  go_wp2_with fail
  refine KS.mono ?_
  rintro e wc ⟨rfl, p2, ho, _, _, hl⟩
  have hl := HB.out.trans hl
  have KS := push_o 3 ho hl.size
  have HB := Lib.hid hl
  clear hl ho
  go_wp2_with fail
  refine KS.mono ?_
  rintro e wd ⟨rfl, p3, ho, _, _, hl⟩
  have hl := HB.out.trans hl
  have KP := pop_o ho hl.size
  have HB := Lib.hid hl
  clear hl ho KS
  go_wp2_with fail
  refine KP.mono ?_
  rintro e we ⟨rfl, ho, _, hl⟩
  have hl := HB.out.trans hl
  have KL := len_o ho
  have HB := Lib.hid hl
  clear hl ho KP
  go_wp2_with (first | (go_at_call 10; refine KL.mono ?_; rintro e wg ⟨rfl, rfl⟩))
  go_ret
  exact ⟨rfl, HB.out⟩
end Go.Proofs.Ytgolbeoaomgmcaa
