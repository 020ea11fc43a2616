/-
  What the law QueuePlays keeps beside the queue; a region that draws its order and only reads, in a round. Conditions: those that each theorem states.
-/
import Derived.Test.YtgolbeoaomgmcaaQuRef
import Derived.Sort.QuietIn
namespace Go.Proofs.Ytgolbeoaomgmcaa
open Go.RowKit Go.Shelf Go.Lib Go.Sort Qu

/-- SUCH A REGION IN A ROUND runs in the text's order. -/
theorem region_round_quiet {P : Program} {id : Nat} {Q : Exit → Act → World → Prop} {a : Act} {w : World} {ops : List Oper} {l : Nat} (hm : P.follows .mixedOrders = true) (hd : noDefer ops.toArray = true) (hB : Region.lexB .any ops.toArray = true)
    (h : wpQuietIn Fence.wide 0 P ops.toArray (fun w' => ∃ n, w' = w.drewN n) (fun a' => ∀ w', (∃ n, w' = w.drewN n) → Q .normal a' w') ops a) : (Code.region id ops.toArray true).wpIn (Fence.wide.inRound l) 0 P Q a w := by
  simp only [Region.lexB, Bool.and_eq_true] at hB
  refine region_round hm hd (wpAnyIn_of_quiet (C := fun w' => ∃ n, w' = w.drewN n) (Q := fun a' => ∀ w', (∃ n, w' = w.drewN n) → Q .normal a' w') (Q' := NoPanic Q) rfl (fun _ w' hw' h => h w' hw') _ _ _ _ (show ∃ n, w.drew = w.drewN n from ⟨1, rfl⟩) ?_)
  have := wpAnyQIn_lex (F := Fence.wide) (n := 0) (P := P) (C := fun w' => ∃ n, w' = w.drewN n) (md := .any) hB.1 ops 0 (Array.replicate ops.toArray.size false) a (by simp) (by simpa using hB.2) h
  simpa using this

theorem len_g (q : Nat) (n : Int) (w : World) (h : w.cell? ⟨q, 2, none⟩ = some (.int .i64 n)) : Calls Try.prog 10 #[.pointer (some ⟨q, 0, none⟩)] w fun e w' => e = .returned (.int .i64 n) ∧ ∃ qq os', w' = grow (w.drewN qq) os' :=
  (len_c q n w h).mono fun _ _ ⟨h1, h2⟩ => ⟨h1, 0, #[], by rw [World.drewN_zero, grow_empty]; exact h2.symm⟩
theorem rpush_o {mb k c : Nat} {r : Option Nat} {p : Option Addr} {xs : List Int} {w : World} (x : Int) (h : RefS w mb k r p c xs) (hlen : xs.length ≤ 1000) :
    Calls Try.prog 12 #[.pointer (some ⟨mb, 0, none⟩), .int .i64 x] w fun e w' => e = .returned (.int .i64 (pushR k xs)) ∧ ∃ r' p' c', RefS w' mb k r' p' c' (pushT k xs x) ∧ (r' = r ∨ ∀ g, r' = some g → w.heap.size ≤ g) ∧ Touch mb none w w' := by
  unfold pushR pushT
  by_cases hlt : xs.length < k
  · rw [if_pos hlt, if_pos hlt]
    exact (rpush_c x h hlt hlen).mono fun _ _ ⟨h1, r', p', c', h2, h3, h4⟩ => ⟨h1, r', p', c', h2, .inr h3, h4⟩
  · rw [if_neg hlt, if_neg hlt]
    exact (rpushFull_c x h hlt).mono fun _ _ ⟨h1, h2⟩ => ⟨h1, r, p, c, h.below h2.below, .inl rfl, Touch.below h2.below⟩
theorem rpop_o {mb k c : Nat} {r : Option Nat} {p : Option Addr} {xs : List Int} {w : World} (h : RefS w mb k r p c xs) (hlen : xs.length ≤ 1000) :
    Calls Try.prog 13 #[.pointer (some ⟨mb, 0, none⟩)] w fun e w' => e = .returned (.tuple #[.int .i64 (gI xs 0), .bool (decide (0 < xs.length))]) ∧ ∃ r' p' c', RefS w' mb k r' p' c' xs.tail ∧ (∀ g, r' = some g → r = some g) ∧ Touch mb none w w' := by
  cases xs with
  | nil =>
    refine (rpopNo_c h).mono ?_
    rintro e w' ⟨he, rfl⟩
    exact ⟨he, r, p, c, h, fun _ h => h, Touch.below (Below.refl _ _)⟩
  | cons x xs => exact (rpop_c h (by rw [List.length_cons] at hlen; omega)).mono fun _ _ h => h

/-- The law's own memory. -/
structure RsI (w : World) (k mb Mb c : Nat) (r : Option Nat) (p : Option Addr) (xs : List Int) (wr : World) : Prop where
  below : Below w.heap.size w wr
  be : Box wr w.heap.size (.bool false) 4
  bm : Box wr Mb (.pointer (some ⟨mb, 0, none⟩)) 35
  ref : RefS wr mb k r p c xs
  base : w.heap.size ≤ mb
theorem RsI.on {w wr W : World} {k mb Mb c : Nat} {r : Option Nat} {p : Option Addr} {xs : List Int} (h : RsI w k mb Mb c r p xs wr) (hb : Below wr.heap.size wr W) : RsI w k mb Mb c r p xs W :=
  ⟨bT' h.below hb h.below.size, h.be.below hb, h.bm.below hb, h.ref.below hb, h.base⟩
theorem RefS.other {B : Nat} {W : World} {q k k2 mb c : Nat} {p p2 : Option Addr} {r : Option Nat} {xs ys : List Int} (h : RefS W mb k r p c xs) (ho : Own B W q p2 k2 ys) : mb ≠ q ∧ blk p2 ≠ some mb ∧ ∀ g, r = some g → g ≠ q := by
  obtain ⟨R, f, hq⟩ := ho.que
  refine ⟨?_, fun e => ?_, fun g e => ?_⟩
  · rintro rfl
    have := h.box.symm.trans hq.box
    simp at this
  · have := h.box.symm.trans (hq.at e).2
    simp [rowO] at this
  · rintro rfl
    obtain ⟨cur, fr, hg⟩ := h.row g e
    have := hg.symm.trans hq.box
    simp at this
theorem RsI.que {w wr W : World} {k mb Mb c q : Nat} {r : Option Nat} {p p2 : Option Addr} {xs ys : List Int} (h : RsI w k mb Mb c r p xs wr) (ho : Own w.heap.size wr q p2 k ys) (hap : ∀ g, blk p2 = some g → r ≠ some g) (ht : Touch q (blk p2) wr W) (hb : Below w.heap.size wr W) : RsI w k mb Mb c r p xs W := by
  obtain ⟨o1, o2, o3⟩ := h.ref.other ho
  exact ⟨h.below.trans hb, h.be.left ho ht (by decide), h.bm.left ho ht (by decide), h.ref.same (ht.block mb h.ref.lt.1 o1 (Ne.symm o2)) fun g e => ht.block g (h.ref.lt.2 g e) (o3 g e) fun e2 => hap g e2.symm e, h.base⟩
theorem RsI.refd {w wr W : World} {k mb Mb c c' : Nat} {r r' : Option Nat} {p p' : Option Addr} {xs xs' : List Int} (h : RsI w k mb Mb c r p xs wr) (hr : RefS W mb k r' p' c' xs') (ht : Touch mb none wr W) : RsI w k mb Mb c' r' p' xs' W := by
  have n1 : w.heap.size ≠ mb := by
    intro e
    have h1 := h.be
    rw [e] at h1
    have := h1.symm.trans h.ref.box
    simp at this
  have n2 : Mb ≠ mb := by
    rintro rfl
    have := h.bm.symm.trans h.ref.box
    simp at this
  exact ⟨h.below.trans (ht.below_of h.below.size h.base fun g e => by cases e), (ht.block _ h.be.lt n1 (by simp)).trans h.be, (ht.block _ h.bm.lt n2 (by simp)).trans h.bm, hr, h.base⟩
theorem Own.refd {B : Nat} {wr W : World} {k k2 mb c q : Nat} {r : Option Nat} {p p2 : Option Addr} {xs ys : List Int} (ho : Own B wr q p2 k2 ys) (h : RefS wr mb k r p c xs) (ht : Touch mb none wr W) : Own B W q p2 k2 ys := by
  obtain ⟨o1, o2, _⟩ := h.other ho
  obtain ⟨R, f, hq⟩ := ho.que
  exact ⟨⟨R, f, hq.same (ht.block q ho.lt.1 (Ne.symm o1) (by simp)) fun g e => ht.block g (ho.lt.2 g e) (fun e2 => o2 (by rw [← e2]; exact e)) (by simp)⟩, ho.b1, ho.b2⟩
/-- Between two calls. -/
structure PlI (w : World) (k q mb Mb c : Nat) (r : Option Nat) (pq p : Option Addr) (xs : List Int) (wr : World) : Prop where
  rest : RsI w k mb Mb c r p xs wr
  own : Own w.heap.size wr q pq k xs
  ap : ∀ g, blk pq = some g → r ≠ some g
theorem PlI.on {w wr W : World} {k q mb Mb c : Nat} {r : Option Nat} {pq p : Option Addr} {xs : List Int} (h : PlI w k q mb Mb c r pq p xs wr) (hb : Below wr.heap.size wr W) : PlI w k q mb Mb c r pq p xs W := ⟨h.rest.on hb, h.own.below hb, h.ap⟩
/-- What is read of the law's own memory. -/
theorem RsI.cells {w wr : World} {k mb Mb c : Nat} {r : Option Nat} {p : Option Addr} {xs : List Int} (h : RsI w k mb Mb c r p xs wr) : wr.cell? ⟨Mb, 0, none⟩ = some (.pointer (some ⟨mb, 0, none⟩)) ∧ wr.cell? ⟨mb, 1, none⟩ = some (.slice p xs.length c) := ⟨h.bm.cell, (cell_two h.ref.box).2.1⟩
/-- Both were pushed to. -/
theorem PlI.push {w wr W5 W6 : World} {k q mb Mb c c' : Nat} {r r' : Option Nat} {pq pq' p p' : Option Addr} {xs ys : List Int} (h : PlI w k q mb Mb c r pq p xs wr) (ho : Own w.heap.size W5 q pq' k ys) (ht : Touch q (blk pq) wr W5) (hn : New pq pq' wr) (hb : Below w.heap.size wr W5)
    (hr : RefS W6 mb k r' p' c' ys) (hrn : r' = r ∨ ∀ g, r' = some g → W5.heap.size ≤ g) (ht6 : Touch mb none W5 W6) : PlI w k q mb Mb c' r' pq' p' ys W6 := by
  have h5 := h.rest.que h.own h.ap ht hb
  refine ⟨h5.refd hr ht6, ho.refd h5.ref ht6, fun g e e2 => ?_⟩
  rcases hrn with rfl | hrn
  · rcases hn with rfl | hn
    · exact h.ap g e e2
    · have := hn g e
      have := h.rest.ref.lt.2 g e2
      omega
  · have := hrn g e2
    have := ho.lt.2 g e
    omega
end Go.Proofs.Ytgolbeoaomgmcaa
