/-
  bag's New at ints over this seat's translation. Conditions: those that each theorem states.
-/
import Derived.Test.YtfjipkkhjjpaiaaPutI
namespace Go.Proofs.Ytfjipkkhjjpaiaa
open Go.RowKit Go.Shelf Go.Lib Go.Sort St

/-- A bag of its own: its box and its row are blocks from B on. -/
structure OwnI (W : World) (B b : Nat) (sv : Value) (xs : List Int) : Prop where
  bag : BagSI W b sv xs
  base : B ≤ b
  row : ∀ g, sv.ownBlock = some g → B ≤ g
theorem OwnI.below {W W' : World} {B b : Nat} {sv : Value} {xs : List Int} (h : OwnI W B b sv xs) (hb : Below W.heap.size W W') : OwnI W' B b sv xs := ⟨h.bag.below hb, h.base, h.row⟩
theorem OwnI.mono {W : World} {B B' b : Nat} {sv : Value} {xs : List Int} (h : OwnI W B b sv xs) (hB : B' ≤ B) : OwnI W B' b sv xs := ⟨h.bag, Nat.le_trans hB h.base, fun g e => Nat.le_trans hB (h.row g e)⟩

set_option maxHeartbeats 4000000 in
set_option maxRecDepth 100000 in
theorem new_I (cl : Nat) (pl : Option Addr) (ys : List Int) (w : World) (hy : InList cI w pl ys) (hlen : ys.length ≤ 1000000) :
    Calls Try.prog 10 #[.func (.func 11) #[] #[], .slice pl ys.length cl] w fun e w' => Below w.heap.size w w' ∧ ∃ b sv R, e = .returned (.pointer (some ⟨b, 0, none⟩)) ∧ OwnI w' w.heap.size b sv R ∧ Ins (fun x : Int => x) [] ys R := by
  have hbag : BagSI (w.alloc (.cells #[.func (.func 11) #[] #[], .slice none 0 0] 71)) w.heap.size (.slice none 0 0) [] :=
    ⟨World.alloc_heap_new w _, World.ownsRow_nil _ _ _ _, .nil⟩
  have hbl : Below w.heap.size w (w.alloc (.cells #[.func (.func 11) #[] #[], .slice none 0 0] 71)) := bA' (Below.refl _ _) (Nat.le_refl _) _
  have KP := put_I w.heap.size cl pl (.slice none 0 0) [] ys _ hbag (hy.below hbl) (by simpa using hlen)
  have HBL := Lib.hid hbl
  have hnil : ∀ w : World, (binOp BinOp.eql 27 (.func (.func 11) #[] #[]) .nilFunc).run Try.prog w = .ok (.bool false) w := fun _ => by kernel_rfl
  clear hbag hy hbl
  go_enter Try.func10, Try.ntmps10
  go_wp2_with fail
  refine KP.mono ?_
  rintro e w2 ⟨rfl, sv', R, r1, r2, r3, r4⟩
  have HR := Lib.hid (And.intro r1 (And.intro r2 (And.intro r3 r4)))
  clear r1 r2 r3 r4 KP
  go_wp2
  go_ret
  obtain ⟨r1, r2, r3, r4⟩ := HR.out
  have hrow : ∀ g, sv'.ownBlock = some g → w.heap.size ≤ g := by
    intro g e
    rcases r3 with h | h
    · rw [h] at e; cases e
    · have := h g e
      rw [World.size_alloc] at this
      omega
  exact ⟨HBL.out.trans (r4.below_of (by simp) (Nat.le_refl _) (fun g e => by cases e)), _, sv', R, rfl, ⟨r1, Nat.le_refl _, hrow⟩, r2⟩

set_option maxHeartbeats 1000000 in
theorem newNil_I (v : Value) (w : World) : Calls Try.prog 10 #[.nilFunc, v] w fun e w' => e = .returned (.pointer none) ∧ w' = w := by
  have hnil : ∀ w : World, (binOp BinOp.eql 27 .nilFunc .nilFunc).run Try.prog w = .ok (.bool true) w := fun _ => by kernel_rfl
  go_enter Try.func10, Try.ntmps10
  go_wp2
  go_ret
  exact ⟨rfl, rfl⟩
set_option maxHeartbeats 1000000 in
theorem putNil_I (v : Value) (w : World) : Calls Try.prog 33 #[.pointer none, v] w fun e w' => e = .returned (.tuple #[]) ∧ w' = w := by
  go_enter Try.func33, Try.ntmps33
  go_wp2
  (try simp only [Exit.inBlock, Exit.then]); refine bodyPost_ret (results_none rfl _ _ _) rfl ?_
  exact ⟨rfl, rfl⟩
end Go.Proofs.Ytfjipkkhjjpaiaa
