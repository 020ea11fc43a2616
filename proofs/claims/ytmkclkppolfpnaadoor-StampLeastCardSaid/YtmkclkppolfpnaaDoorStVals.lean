/-
  slices.Values of a list of stamps, and gavottelaw06's of and plain over this seat's translation. Conditions: those that each theorem states.
-/
import Derived.Test.YtmkclkppolfpnaaDoorQuRangeF
import Derived.Test.YtmkclkppolfpnaaDoorMG
namespace Go.Proofs.YtmkclkppolfpnaaDoor
open Go.RowKit Go.Shelf Go.Lib Go.Sort
attribute [local go_sem] Oper.semAt_some

/-- A stamp: its numerator, its denominator, its count. -/
abbrev St := Int × Int × Int
abbrev St.v (x : St) : Value := stV x.1 x.2.1 x.2.2
def cS (x : St) : List Value := [.int .i64 x.1, .int .i64 x.2.1, .int .i64 x.2.2]
theorem cS_len (x : St) : (cS x).length = 3 := rfl
theorem own_keepS {B : Nat} {J : Nat → World → Prop} (hJ : OwnFrom B J) {k : Nat} {A C : World} (h : J k A) (hb : Below A.heap.size A C) : J k C := hJ k A C none h (grown_of_below hb) (fun r e => by cases e)

set_option maxHeartbeats 1000000 in
theorem values_c (p : Option Addr) (n cap : Nat) (w : World) : Calls Tryd.prog 23 #[.slice p n cap] w fun e w' =>
    e = .returned (.func (.func 39) #[] #[.pointer (some ⟨w.heap.size, 0, none⟩)]) ∧ w' = w.alloc (.cells #[.slice p n cap] 48) := by
  go_enter Tryd.func23, Tryd.ntmps23
  go_wp2
  go_ret
  exact ⟨rfl, rfl⟩

set_option maxRecDepth 100000 in
set_option maxHeartbeats 4000000 in
theorem values1_seq (Bv n cap : Nat) (p : Option Addr) (pl : Nat → St) (safe : Nat → Obj → Prop) (w : World) (hn : n ≤ 1000000)
    (hbox : w.heap[Bv]? = some (.cells #[.slice p n cap] 48 (0, 0))) (hbs : safe Bv (.cells #[.slice p n cap] 48 (0, 0)))
    (hrow : ∀ i, i < n → ∃ g off u, p = some ⟨g, off, none⟩ ∧ w.heap[g]? = some u ∧ safe g u ∧ w.cell? ⟨g, off + i * 3, none⟩ = some (.int .i64 (pl i).1) ∧ w.cell? ⟨g, off + i * 3 + 1, none⟩ = some (.int .i64 (pl i).2.1) ∧ w.cell? ⟨g, off + i * 3 + 2, none⟩ = some (.int .i64 (pl i).2.2)) :
    SeqN 39 #[] #[.pointer (some ⟨Bv, 0, none⟩)] n (fun k => #[St.v (pl k)]) safe w := by
  intro l J Jx W hW hJ hJx hY h0
  have hk0 : Kept safe w W := Kept.below hW
  have c0 : W.cell? ⟨Bv, 0, none⟩ = some (.slice p n cap) := by unfold World.cell?; rw [hk0.same _ _ hbs hbox]; rfl
  have HY := Lib.hid hY
  have HROW := Lib.hid hrow
  have HJ := Lib.hid hJ
  have H0 := Lib.hid (And.intro h0 hk0)
  clear hY hrow hbs hbox h0 hk0 hJ hJx
  refine callsIn_of_wp Tryd.func39 rfl trivial ?_ rfl
  simp only [Tryd.ntmps39, List.size_toArray, List.length_cons, List.length_nil, Nat.reduceAdd, Nat.reduceSub, Array.replicate_succ, Array.replicate_zero, List.push_toArray, List.append_toArray, List.nil_append, List.cons_append]
  gi_wp2
  gi_loopw [7] (fun v wr => ∃ k : Nat, v = .int .i64 (k : Int) ∧ k ≤ n ∧ Hid (J k wr ∧ Kept safe w wr)) (fun v _ => n - (intOf v).toNat)
  case atStart => exact ⟨0, rfl, Nat.zero_le _, H0⟩
  case round =>
    clear H0
    obtain ⟨k, rfl, hk, HR⟩ := hrel
    by_cases hlt : k < n
    · obtain ⟨g, off, u, rfl, hu, hus, e0, e1, e2⟩ := HROW.out k hlt
      have hg := (HR.out.2.same _ _ hus hu).trans hu.symm
      have r0 : wr.cell? ⟨g, off + k * 3, none⟩ = some (.int .i64 (pl k).1) := by rw [← e0]; exact World.cell?_of_block hg
      have r1 : wr.cell? ⟨g, off + k * 3 + 1, none⟩ = some (.int .i64 (pl k).2.1) := by rw [← e1]; exact World.cell?_of_block hg
      have r2 : wr.cell? ⟨g, off + k * 3 + 2, none⟩ = some (.int .i64 (pl k).2.2) := by rw [← e2]; exact World.cell?_of_block hg
      obtain ⟨x, hx⟩ : ∃ x, pl k = x := ⟨_, rfl⟩
      rw [hx] at r0 r1 r2
      have hba : Below wr.heap.size wr (wr.alloc (.cells #[.int .i64 x.1, .int .i64 x.2.1, .int .i64 x.2.2] 27)) := bA' (Below.refl _ _) (Nat.le_refl _) _
      obtain ⟨fn, tm, asg, bd, hy, hR⟩ := HY.out k _ (own_keepS HJ.out HR.out.1 hba) hlt
      rw [hx] at hy
      have hkz : (k : Int) < (n : Int) := by omega
      have ri : IntKind.i64.wrap ((k : Int) + 1) = ((k + 1 : Nat) : Int) := by rw [IntKind.wrap_i64]; omega
      have HBA := Lib.hid hba
      clear hu hus hg e0 e1 e2 hx hba
      gi_wp2
      refine ⟨rfl, hR.mono ?_⟩
      rintro e W3 (⟨rfl, hj, hkp, _⟩ | ⟨rfl, hjx, _⟩)
      · have H3 := Lib.hid (show J (k + 1) W3 ∧ Kept safe w W3 from ⟨hj, HR.out.2.trans ((Kept.below HBA.out).trans hkp)⟩)
        clear hj hkp hy hR r0 r1 r2
        gi_wp2
        go_roundw
        case rel => exact ⟨k + 1, rfl, by omega, H3⟩
        case measure => simp [intOf]; omega
      · have H3 := Lib.hid hjx
        clear hjx hy hR r0 r1 r2
        gi_wp2
        refine bodyPost_ret (results_none rfl _ _ _) rfl ?_
        exact ⟨⟨_, rfl⟩, .inr ⟨k + 1, hlt, H3.out⟩⟩
    · obtain rfl : k = n := by omega
      have zk2 : ¬ (k : Int) < (k : Int) := by omega
      gi_wp2
      go_end0
      exact ⟨⟨_, rfl⟩, .inl HR.out.1⟩

set_option maxHeartbeats 1000000 in
theorem of_c (n d c : Int) (w : World) : Calls Tryd.prog 9 #[stV n d c] w fun e w' => e = .returned (stV n d c) ∧ Below w.heap.size w w' := by
  have HB := Lib.hid (bA' (bA' (Below.refl w.heap.size w) (Nat.le_refl _) (.cells #[.int .i64 n, .int .i64 d, .int .i64 c] 25)) (by simp) (.cells #[.int .i64 n, .int .i64 d, .int .i64 c] 27))
  go_enter Tryd.func9, Tryd.ntmps9
  go_wp2
  exact bodyPost_ret (v := stV n d c) (by simp [results, Tryd.results9, go_sem]) rfl ⟨rfl, HB.out⟩
set_option maxHeartbeats 1000000 in
theorem plain_c (n d c : Int) (w : World) : Calls Tryd.prog 20 #[stV n d c] w fun e w' => e = .returned (stV n d c) ∧ Below w.heap.size w w' := by
  have HB := Lib.hid (bA' (bA' (Below.refl w.heap.size w) (Nat.le_refl _) (.cells #[.int .i64 n, .int .i64 d, .int .i64 c] 27)) (by simp) (.cells #[.int .i64 n, .int .i64 d, .int .i64 c] 25))
  go_enter Tryd.func20, Tryd.ntmps20
  go_wp2
  exact bodyPost_ret (v := stV n d c) (by simp [results, Tryd.results20, go_sem]) rfl ⟨rfl, HB.out⟩
end Go.Proofs.YtmkclkppolfpnaaDoor
