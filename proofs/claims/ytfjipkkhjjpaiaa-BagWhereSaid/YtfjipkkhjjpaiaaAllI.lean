/-
  bag's All at ints over this seat's translation: the places and things, in order. Conditions: those that each theorem states.
-/
import Derived.Test.YtfjipkkhjjpaiaaBackward
import Derived.Test.YtfjipkkhjjpaiaaDropI
namespace Go.Proofs.Ytfjipkkhjjpaiaa
open Go.RowKit Go.Shelf Go.Lib Go.Sort St
attribute [local go_sem] Oper.semAt_some

set_option maxHeartbeats 1000000 in
theorem all_c (p : Option Addr) (w : World) : Calls Try.prog 15 #[.pointer p] w fun e w' =>
    e = .returned (.func (.func 38) #[] #[.pointer (some ⟨w.heap.size, 0, none⟩)]) ∧ w' = w.alloc (.cells #[.pointer p] 25) := by
  go_enter Try.func15, Try.ntmps15
  go_wp2
  go_ret
  exact ⟨rfl, rfl⟩

set_option maxRecDepth 100000 in
set_option maxHeartbeats 4000000 in
theorem allNil_seq (Bv : Nat) (safe : Nat → Obj → Prop) (w : World) (hbox : w.heap[Bv]? = some (.cells #[.pointer none] 25 (0, 0))) :
    SeqN 38 #[.pointer (some ⟨Bv, 0, none⟩)] 0 (fun _ => #[.int .i64 0, .int .i64 0]) safe w := by
  intro l J Jx W hW hJ hJx hY h0
  have c0 : W.cell? ⟨Bv, 0, none⟩ = some (.pointer none) := by unfold World.cell?; rw [hW.block Bv (Array.getElem?_eq_some_iff.1 hbox).1, hbox]; rfl
  have H0 := Lib.hid h0
  clear hY h0
  refine callsIn_of_wp Try.func38 rfl trivial ?_ rfl
  simp only [Try.ntmps38, List.size_toArray, List.length_cons, List.length_nil, Nat.reduceAdd, Nat.reduceSub, Array.replicate_succ, Array.replicate_zero, List.push_toArray, List.append_toArray, List.nil_append, List.cons_append]
  gi_wp2
  refine bodyPost_ret (results_none rfl _ _ _) rfl ?_
  exact ⟨⟨_, rfl⟩, .inl H0.out⟩

set_option maxRecDepth 100000 in
set_option maxHeartbeats 4000000 in
theorem all_seq (Bv b : Nat) (sv : Value) (xs : List Int) (safe : Nat → Obj → Prop) (w : World) (hn : xs.length ≤ 1000000)
    (hbox : w.heap[Bv]? = some (.cells #[.pointer (some ⟨b, 0, none⟩)] 25 (0, 0))) (hbag : BagSI w b sv xs) (hnew : ∀ k o, w.heap.size ≤ k → o.isCells = true → safe k o) :
    SeqN 38 #[.pointer (some ⟨Bv, 0, none⟩)] xs.length (fun k => #[.int .i64 k, .int .i64 (xs.getD k default)]) safe w := by
  intro l J Jx W hW hJ hJx hY h0
  have c0 : W.cell? ⟨Bv, 0, none⟩ = some (.pointer (some ⟨b, 0, none⟩)) := by unfold World.cell?; rw [hW.block Bv (Array.getElem?_eq_some_iff.1 hbox).1, hbox]; rfl
  have hbw : BagSI W b sv xs := hbag.same (hW.block _ hbag.lt.1) fun g e => hW.block _ (hbag.lt.2 g e)
  obtain ⟨p, cap, rfl, hl⟩ := hbw.slice
  obtain ⟨d0, d1, _⟩ := cell_two hbw.box
  have KC := Lib.hid (clone_I p cap xs W hl hn)
  have HY := Lib.hid hY
  have H0 := Lib.hid (And.intro h0 (And.intro hJ (And.intro hW hnew)))
  clear hY h0 hbw hl hJ hJx hbox hbag hW hnew
  refine callsIn_of_wp Try.func38 rfl trivial ?_ rfl
  simp only [Try.ntmps38, List.size_toArray, List.length_cons, List.length_nil, Nat.reduceAdd, Nat.reduceSub, Array.replicate_succ, Array.replicate_zero, List.push_toArray, List.append_toArray, List.nil_append, List.cons_append]
  gi_wp2_with fail
  refine ⟨trivial, rfl, ?_⟩
  refine callsIn_wide.2 (KC.out.mono ?_)
  rintro e w1 ⟨hb1, pa, ca, rfl, hpos⟩
  obtain ⟨h0, hJ, hW, hnew⟩ := H0.out
  have h1 : J 0 w1 := hJ _ _ _ none h0 (grown_of_below hb1) (fun r e => by cases e)
  have HP := Lib.hid (And.intro hpos (And.intro (Nat.le_trans hW.size hb1.size) (And.intro h1 (show w.heap.size ≤ W.heap.size from hW.size))))
  have HN := Lib.hid hnew
  clear h0 hJ hW hnew hb1 hpos h1 H0 KC c0 d0 d1
  gi_wp2
  gi_loopw [13] (fun v wr => ∃ k : Nat, v = .int .i64 k ∧ k ≤ xs.length ∧ Hid (J k wr ∧ Kept safe w1 wr)) (fun v _ => xs.length - (intOf v).toNat)
  case atStart => exact ⟨0, rfl, Nat.zero_le _, HP.out.2.2.1, Kept.below (Below.refl _ _)⟩
  case round =>
    obtain ⟨k, rfl, hk, HR⟩ := hrel
    by_cases hlt : k < xs.length
    · have hkz : (k : Int) < (xs.length : Int) := by omega
      obtain ⟨ga, rfl, hga, hrow⟩ := HP.out.1 (by omega)
      obtain ⟨cur, r1, _⟩ := hrow.whole
      have r2 := HR.out.2.same ga _ (HN.out ga _ (Nat.le_trans HP.out.2.2.2 hga) rfl) r1
      have hc := hrow.row.cellAt k (by omega)
      have h1 := flat_get cI_len xs k 0 hlt (by omega)
      rw [Nat.mul_one, Nat.add_zero] at h1
      have hc2 : wr.cell? ⟨ga, k, none⟩ = some (.int .i64 (xs.getD k default)) := by
        rw [World.cell?_of_block (r2.trans r1.symm), hc, h1, seekd_I xs k hlt]
        rfl
      obtain ⟨fn, tm, asg, bd, hy, hR⟩ := HY.out k wr HR.out.1 hlt
      obtain ⟨y, hyy⟩ : ∃ y, xs.getD k default = y := ⟨_, rfl⟩
      rw [hyy] at hc2
      simp only [hyy] at hy
      clear hrow r1 r2 hc h1 hga
      gi_wp2
      refine ⟨rfl, hR.mono ?_⟩
      rintro e W3 (⟨rfl, hj, hkp, _⟩ | ⟨rfl, hjx, _⟩)
      · have H3 := Lib.hid (show J (k + 1) W3 ∧ Kept safe w1 W3 from ⟨hj, HR.out.2.trans hkp⟩)
        clear hj hkp hy hR hc2
        gi_wp2
        go_roundw
        case rel => exact ⟨k + 1, by go_num, by omega, H3⟩
        case measure => simp [intOf]; omega
      · have H3 := Lib.hid hjx
        clear hjx hy hR hc2
        gi_wp2
        refine bodyPost_ret (results_none rfl _ _ _) rfl ?_
        exact ⟨⟨_, rfl⟩, .inr ⟨k + 1, hlt, H3.out⟩⟩
    · obtain rfl : k = xs.length := by omega
      gi_wp2
      go_end0
      exact ⟨⟨_, rfl⟩, .inl HR.out.1⟩
end Go.Proofs.Ytfjipkkhjjpaiaa
