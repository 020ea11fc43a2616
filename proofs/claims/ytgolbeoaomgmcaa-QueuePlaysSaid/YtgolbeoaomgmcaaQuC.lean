/-
  queue's Peek and each over this seat's translation. Conditions: those that each theorem states.
-/
import Derived.Test.YtgolbeoaomgmcaaQuB
import Derived.Test.YtgolbeoaomgmcaaQuRangeF
namespace Go.Proofs.Ytgolbeoaomgmcaa
open Go.RowKit Go.Shelf Go.Lib Go.Sort Qu
attribute [local go_sem] Oper.semAt_some

set_option maxHeartbeats 2000000 in
set_option maxRecDepth 100000 in
theorem peek_c {q : Nat} {p : Option Addr} {R : List Int} {f k : Nat} {x : Int} {xs : List Int} {w : World} (h : QueS w q p R f k (x :: xs)) :
    Calls Try.prog 14 #[.pointer (some ⟨q, 0, none⟩)] w fun e w' => e = .returned (.tuple #[.int .i64 x, .bool true]) ∧ G w w' := by
  have mixed : Try.prog.follows .mixedOrders = true := by kernel_rfl
  obtain ⟨c0, c1, c2, _⟩ := cell_four h.box
  have KL := len_c q _ w c2
  obtain ⟨hr, hf, hR⟩ := h.ring.head
  rcases h.row with ⟨_, h0⟩ | ⟨g, rfl, hg⟩
  · omega
  have r0 := rowO_cell hg f
  rw [hr] at r0
  simp only [Option.map_some] at r0
  have hz : (((x :: xs).length : Int) == 0) = false := by rw [beq_eq_false_iff_ne, List.length_cons]; omega
  have hz2 : ¬ ((x :: xs).length : Int) = 0 := by rw [List.length_cons]; omega
  obtain ⟨n, hn⟩ : ∃ n, (x :: xs).length = n := ⟨_, rfl⟩
  obtain ⟨L, hL⟩ : ∃ L, R.length = L := ⟨_, rfl⟩
  rw [hn] at hz hz2 KL c2
  rw [hL] at c0 hf
  have hfz : (f : Int) < (L : Int) := by omega
  have hfz2 : (0 : Int) ≤ (f : Int) := by omega
  clear h hr hR hg hn hL
  go_enter Try.func14, Try.ntmps14
  go_wp2_with fail
  refine KL.mono ?_
  rintro e w1 ⟨rfl, rfl⟩
  clear KL
  go_wp2_with fail
  go_quiet (fail)
  go_wp2
  refine bodyPost_ret (results_tmp2 rfl _ _ _) rfl ?_
  exact ⟨rfl, G.drew _ _⟩
set_option maxHeartbeats 1000000 in
theorem peekNo_c {q : Nat} {w : World} (c2 : w.cell? ⟨q, 2, none⟩ = some (.int .i64 0)) :
    Calls Try.prog 14 #[.pointer (some ⟨q, 0, none⟩)] w fun e w' => e = .returned (.tuple #[.int .i64 0, .bool false]) ∧ w = w' := by
  have KL := len_c q _ w c2
  go_enter Try.func14, Try.ntmps14
  go_wp2_with fail
  refine KL.mono ?_
  rintro e w1 ⟨rfl, rfl⟩
  clear KL
  go_wp2
  refine bodyPost_ret (results_tmp2 rfl _ _ _) rfl ?_
  exact ⟨rfl, rfl⟩
set_option maxHeartbeats 1000000 in
theorem peekNil_c (w : World) : Calls Try.prog 14 #[.pointer none] w fun e w' => e = .returned (.tuple #[.int .i64 0, .bool false]) ∧ w = w' := by
  have KL := lenNil_c w
  go_enter Try.func14, Try.ntmps14
  go_wp2_with fail
  refine KL.mono ?_
  rintro e w1 ⟨rfl, rfl⟩
  clear KL
  go_wp2
  refine bodyPost_ret (results_tmp2 rfl _ _ _) rfl ?_
  exact ⟨rfl, rfl⟩

theorem own_keep {B : Nat} {J : Nat → World → Prop} (hJ : OwnFrom B J) {k : Nat} {A C : World} (h : J k A) (hb : Below A.heap.size A C) : J k C := hJ k A C none h (grown_of_below hb) (fun r e => by cases e)
theorem yield_res' {A B : Prop} {e : Ending} (h : (e = .returned (.bool true) ∧ A) ∨ (e = .returned (.bool false) ∧ B)) : ∃ r, e = .returned (.bool r) ∧ ((r = true ∧ A) ∨ (r = false ∧ B)) := by
  rcases h with ⟨rfl, h⟩ | ⟨rfl, h⟩
  · exact ⟨true, rfl, .inl ⟨rfl, h⟩⟩
  · exact ⟨false, rfl, .inr ⟨rfl, h⟩⟩
/-- The item at a place. -/
def gI (xs : List Int) (k : Nat) : Int := xs.getD k 0

set_option maxRecDepth 100000 in
set_option maxHeartbeats 8000000 in
theorem each_seq {q : Nat} {p : Option Addr} {R : List Int} {f k0 : Nat} {xs : List Int} {safe : Nat → Obj → Prop} {w : World} (h : QueS w q p R f k0 xs) (hs : ∀ b o, w.heap[b]? = some o → (b = q ∨ blk p = some b) → safe b o) :
    SeqN 24 #[.pointer (some ⟨q, 0, none⟩)] #[] xs.length (fun k => #[.int .i64 k, .int .i64 (gI xs k)]) safe w := by
  intro l J Jx W hW hJ hJx hY h0
  have hk0 : Kept safe w W := Kept.below hW
  have hbW := h.below hW
  have c2 := (cell_four hbW.box).2.2.1
  have KL := Lib.hid (len_c q _ W c2)
  have hmx : Try.prog.follows .mixedOrders = true := by kernel_rfl
  have HY := Lib.hid hY
  have HJ := Lib.hid hJ
  have HH := Lib.hid (And.intro h hs)
  have H0 := Lib.hid (And.intro h0 hk0)
  obtain ⟨n, hn⟩ : ∃ n, xs.length = n := ⟨_, rfl⟩
  have HN := Lib.hid hn
  rw [hn] at KL ⊢
  clear hY h0 hk0 hbW c2 h hs hn hJ hJx hW
  refine callsIn_of_wp Try.func24 rfl trivial ?_ rfl
  simp only [Try.ntmps24, List.size_toArray, List.length_cons, List.length_nil, Nat.reduceAdd, Nat.reduceSub, Array.replicate_succ, Array.replicate_zero, List.push_toArray, List.append_toArray, List.nil_append, List.cons_append]
  gi_wp2_with fail
  refine ⟨trivial, rfl, ?_⟩
  refine callsIn_wide.2 (KL.out.mono ?_)
  rintro e w1 ⟨rfl, rfl⟩
  clear KL
  gi_wp2
  gi_loopw [7] (fun v wr => ∃ k : Nat, v = .int .i64 (k : Int) ∧ k ≤ n ∧ Hid (J k wr ∧ Kept safe w wr)) (fun v _ => n - (intOf v).toNat)
  case atStart => exact ⟨0, rfl, Nat.zero_le _, H0⟩
  case round =>
    clear H0
    obtain ⟨k, rfl, hk, HR⟩ := hrel
    by_cases hlt : k < n
    · have hkz : (k : Int) < (n : Int) := by omega
      obtain ⟨h, hs⟩ := HH.out
      have hn := HN.out
      have hlen := h.len
      have hbr := HR.out.2.same q _ (hs q _ h.box (.inl rfl)) h.box
      rcases h.row with ⟨_, h0⟩ | ⟨g, rfl, hg⟩
      · have := h.ring.fit; omega
      have hgr := HR.out.2.same g _ (hs g _ hg (.inr rfl)) hg
      obtain ⟨c0, c1, _, _⟩ := cell_four hbr
      have hfit := h.ring.fit
      have hi := h.ring.is k (by omega)
      have hrl := h.room
      have r0 := rowO_cell hgr ((f + k) % R.length)
      rw [hi] at r0
      simp only [Option.map_some] at r0
      have hml : (f + k) % R.length < R.length := Nat.mod_lt _ (by omega)
      have hgi : xs[k]'(by omega) = gI xs k := by unfold gI; rw [List.getD_eq_getElem?_getD, List.getElem?_eq_getElem (by omega)]; rfl
      rw [hgi] at r0
      have KP := Lib.hid fun (W' : World) (hb : Below wr.heap.size wr W') => place_g q (some ⟨g, 0, none⟩) R.length f k W' (kc' hb c0) (kc' hb c1) (by omega) (by omega) (by omega) (by omega)
      obtain ⟨m, hm⟩ : ∃ m, (f + k) % R.length = m := ⟨_, rfl⟩
      obtain ⟨L, hL⟩ : ∃ L, R.length = L := ⟨_, rfl⟩
      rw [hm] at KP
      rw [hm] at r0 hml
      rw [hL] at hml c0
      have hmz : (m : Int) < (L : Int) := by omega
      have ri : IntKind.i64.wrap ((k : Int) + 1) = ((k + 1 : Nat) : Int) := by rw [IntKind.wrap_i64]; omega
      have HLT := Lib.hid (show k < xs.length from by omega)
      clear h hs hn hlen hbr hg hgr hfit hi hrl hgi hm hL c1
      gi_wp2_with fail
      gi_region_with_o (first
        | (refine ⟨trivial, rfl, ?_⟩; gi_at_call 21; refine (callsIn_wide.2 (KP.out _ (by first | exact Below.refl _ _ | exact Below.drew (Below.refl _ _)))).mono ?_; rintro e w8 hret
           obtain ⟨rfl, hgr⟩ := hret
           have hbq : Below wr.heap.size wr w8 := bT' (by first | exact Below.refl _ _ | exact Below.drew (Below.refl _ _)) (G.below hgr) (Nat.le_refl _)
           have z0 := kc' hbq c0
           have z1 := kc' hbq r0
           obtain ⟨fn, tm, asg, bd, hy, hR⟩ := HY.out k w8 (own_keep HJ.out HR.out.1 hbq) HLT.out
           have HBQ := Lib.hid hbq
           clear hgr hbq)
        | (refine ⟨rfl, hR.mono ?_⟩; rintro e W9 h9; obtain ⟨r, rfl, h10⟩ := yield_res' h9; have H9 := Lib.hid h10; clear h9 h10))
      all_goals rcases H9.out with ⟨rfl, h⟩ | ⟨rfl, h⟩
      all_goals have HZ := Lib.hid h
      all_goals clear h H9 hy hR
      all_goals gi_wp2
      all_goals first
        | (go_roundw
           case rel => exact ⟨k + 1, rfl, by omega, HZ.out.1, HR.out.2.trans ((Kept.below HBQ.out).trans HZ.out.2.1)⟩
           case measure => simp [intOf]; omega)
        | (refine bodyPost_ret (results_none rfl _ _ _) rfl ?_
           exact ⟨⟨_, rfl⟩, .inr ⟨k + 1, hlt, HZ.out.1⟩⟩)
    · obtain rfl : k = n := by omega
      have zk2 : ¬ (k : Int) < (k : Int) := by omega
      gi_wp2
      go_end0
      exact ⟨⟨_, rfl⟩, .inl HR.out.1⟩
end Go.Proofs.Ytgolbeoaomgmcaa
