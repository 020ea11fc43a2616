/-
  heap's While over this seat's translation: the keys of entries, as long as something is so. Conditions: those that each theorem states.
-/
import Derived.Test.YtngeinmpnjfhfaaHpColl
namespace Go.Proofs.Ytngeinmpnjfhfaa
open Go.RowKit Go.Shelf Go.Lib Go.Sort Hp Go.Maps
attribute [local go_sem] Oper.semAt_some

theorem collect_c (Bv hb mb : Nat) (sv : Value) (es m : List It) (w : World) (hm : Rising m) (hp : es.Perm m) (hn : m.length ≤ 1000)
    (hbox : w.heap[Bv]? = some (.cells #[.pointer (some ⟨hb, 0, none⟩)] 24 (0, 0))) (hh : HeapS w hb sv mb es) :
    Calls Try.prog 24 #[.func (.func 36) #[] #[.pointer (some ⟨Bv, 0, none⟩)]] w fun e w' => ∃ v, e = .returned v ∧ w'.ownsRow w.heap.size 33 2 v m.length (m.flatMap It.cells) ∧ Below w.heap.size w w' := by
  have EG : ∀ args w, (callFunc 36 args).run Try.prog w = .ok (.enter 36 args) w := enters_of Try.func36 (by kernel_rfl) rfl
  have KA := Lib.hid (appendSeq_c _ #[.pointer (some ⟨Bv, 0, none⟩)] EG m hn (fun b => b = Bv ∨ b = hb) w (by
    rintro b (rfl | rfl)
    · exact (Array.getElem?_eq_some_iff.1 hbox).1
    · exact hh.lt.1) fun W0 hb0 => all_seqP Bv hb mb sv es m W0 hm hp hn ((hb0.block _ (Array.getElem?_eq_some_iff.1 hbox).1).trans hbox) (hh.below hb0))
  clear hbox hh EG
  go_enter Try.func24, Try.ntmps24
  go_wp2_with fail
  refine KA.out.mono ?_
  rintro e w2 ⟨v, rfl, hr, hb2⟩
  have HB := Lib.hid (And.intro hr hb2)
  clear hr hb2
  go_wp2
  go_ret
  exact ⟨v, rfl, HB.out⟩

def lowB (x : It) : Bool := decide (x.2 ≤ 4)
set_option maxHeartbeats 1000000 in
theorem low_c (b : Int) (w : World) : Calls Try.prog 26 #[.int .i64 b] w fun e w' => e = .returned (.bool (decide (b ≤ 4))) ∧ w = w' := by
  go_enter Try.func26, Try.ntmps26
  go_wp2
  go_ret
  exact ⟨rfl, rfl⟩
theorem tw_le : ∀ (l : List It), (l.takeWhile lowB).length ≤ l.length
  | [] => Nat.le_refl _
  | x :: l => by
    rw [List.takeWhile_cons]
    split
    · rw [List.length_cons, List.length_cons]; have := tw_le l; omega
    · exact Nat.zero_le _
theorem tw_lt : ∀ (l : List It) (k : Nat), k < (l.takeWhile lowB).length → lowB (Hp.g l k) = true
  | [], k, h => absurd h (Nat.not_lt_zero _)
  | x :: l, k, h => by
    rw [List.takeWhile_cons] at h
    split at h
    · next hx =>
      cases k with
      | zero => exact hx
      | succ k => exact tw_lt l k (by rw [List.length_cons] at h; omega)
    · exact absurd h (Nat.not_lt_zero _)
theorem tw_end : ∀ (l : List It), (l.takeWhile lowB).length < l.length → lowB (Hp.g l (l.takeWhile lowB).length) = false
  | [], h => absurd h (Nat.not_lt_zero _)
  | x :: l, h => by
    rw [List.takeWhile_cons] at h ⊢
    by_cases hx : lowB x = true
    · rw [if_pos hx] at h ⊢
      exact tw_end l (by rw [List.length_cons, List.length_cons] at h; omega)
    · rw [if_neg hx]
      simpa using hx
theorem Inner.mono {lo lo' hi : Nat} {A C : World} (h : Inner lo hi A C) (hl : lo' ≤ lo) : Inner lo' hi A C := ⟨h.os, h.tape, h.output, h.size, fun b hb hn => h.block b hb fun k => hn ⟨by omega, k.2⟩⟩
theorem own_mono' {β : Type} {B B' : Nat} {J : β → World → Prop} (h : OwnFrom B J) (hB : B ≤ B') : OwnFrom B' J := fun s A C row hs hgr hr => h s A C row hs hgr fun r e => ⟨Nat.le_trans hB (hr r e).1, (hr r e).2⟩
theorem cells_own {A C : World} {row : Option Nat} {B : Nat} (hgr : A.grownBy C row) (hr : ∀ r, row = some r → B ≤ r ∧ ∃ o : Obj, A.heap[r]? = some o ∧ o.isCells = false) {b : Nat} {cur : Array Value} {t : TypeId} {fr : Nat × Nat} (hb : A.heap[b]? = some (Obj.cells cur t fr)) : C.heap[b]? = some (Obj.cells cur t fr) := by
  rw [hgr.block b (Array.getElem?_eq_some_iff.1 hb).1 fun e => ?_]
  · exact hb
  · obtain ⟨_, o, ho, hc⟩ := hr b e.symm
    rw [hb] at ho
    cases ho
    cases hc

set_option maxHeartbeats 1000000 in
theorem whilef_c (p : Option Addr) (w : World) : Calls Try.prog 27 #[.pointer p, .func (.func 26) #[] #[]] w fun e w' =>
    e = .returned (.func (.func 39) #[] #[.pointer (some ⟨w.heap.size + 1, 0, none⟩), .pointer (some ⟨w.heap.size, 0, none⟩)]) ∧ w' = (w.alloc (.cells #[.pointer p] 24)).alloc (.cells #[.func (.func 26) #[] #[]] 47) := by
  go_enter Try.func27, Try.ntmps27
  go_wp2
  go_ret
  exact ⟨rfl, rfl⟩

/-- The temporaries of a round of While. -/
def actW (yb Sv Hv hb Bv l bx : Nat) (x : It) : Act :=
  { tmps := #[.func (.yield l) #[] #[], .pointer (some ⟨Sv, 0, none⟩), .pointer (some ⟨Hv, 0, none⟩), .pointer (some ⟨yb, 0, none⟩), .pointer (some ⟨bx, 0, none⟩), .func (.func 26) #[] #[], .bool false, .pointer (some ⟨hb, 0, none⟩), .func (.func 36) #[] #[.pointer (some ⟨Bv, 0, none⟩)], .agg #[.int .i64 x.1, .int .i64 x.2], undef, undef, undef, undef, undef, undef, undef, undef, undef, undef, undef, undef], defers := [] }

set_option maxRecDepth 100000 in
set_option maxHeartbeats 8000000 in
theorem while_seqP (Sv Hv hb mb : Nat) (sv : Value) (es m : List It) (w : World) (hm : Rising m) (hp : es.Perm m) (hn : m.length ≤ 1000)
    (hboxS : w.heap[Sv]? = some (.cells #[.func (.func 26) #[] #[]] 47 (0, 0)))
    (hboxH : w.heap[Hv]? = some (.cells #[.pointer (some ⟨hb, 0, none⟩)] 24 (0, 0))) (hh : HeapS w hb sv mb es) :
    SeqP 39 #[.pointer (some ⟨Sv, 0, none⟩), .pointer (some ⟨Hv, 0, none⟩)] (m.takeWhile lowB).length (fun k => #[.int .i64 (Hp.g m k).1]) (fun b => b = Sv ∨ b = Hv ∨ b = hb) w := by
  intro l J Jx W hW hJ hJx hJin hY h0
  obtain ⟨N, hN⟩ : ∃ N, (m.takeWhile lowB).length = N := ⟨_, rfl⟩
  rw [hN] at hY ⊢
  have HN := Lib.hid hN
  clear hN
  have hboxS := (hW.block Sv (Array.getElem?_eq_some_iff.1 hboxS).1).trans hboxS
  have hboxH := (hW.block Hv (Array.getElem?_eq_some_iff.1 hboxH).1).trans hboxH
  have hh := hh.below hW
  have hb1 : Below W.heap.size W (W.alloc (.cells #[.func (.yield l) #[] #[]] 47)) := bA' (Below.refl _ _) (Nat.le_refl _) _
  have hyb := World.alloc_heap_new W (.cells #[.func (.yield l) #[] #[]] 47)
  have hSlt := (Array.getElem?_eq_some_iff.1 hboxS).1
  have hHlt := (Array.getElem?_eq_some_iff.1 hboxH).1
  have hS1 := (hb1.block Sv hSlt).trans hboxS
  have hH1 := (hb1.block Hv hHlt).trans hboxH
  have cS : (W.alloc (.cells #[.func (.yield l) #[] #[]] 47)).cell? ⟨Sv, 0, none⟩ = some (.func (.func 26) #[] #[]) := by unfold World.cell?; rw [hS1]; rfl
  have cH : (W.alloc (.cells #[.func (.yield l) #[] #[]] 47)).cell? ⟨Hv, 0, none⟩ = some (.pointer (some ⟨hb, 0, none⟩)) := by unfold World.cell?; rw [hH1]; rfl
  have hnil : ∀ w : World, (binOp BinOp.eql 47 (.func (.func 26) #[] #[]) .nilFunc).run Try.prog w = .ok (.bool false) w := fun _ => by kernel_rfl
  have HY := Lib.hid hY
  have HJ := Lib.hid (And.intro hJ (And.intro hJx (And.intro hJin h0)))
  have H1 := Lib.hid (And.intro hyb (And.intro hS1 (And.intro (hh.below hb1) (And.intro hb1 (And.intro hSlt hh.lt.1)))))
  have HM := Lib.hid (And.intro hm (And.intro hp hn))
  have hs1 : (W.alloc (.cells #[.func (.yield l) #[] #[]] 47)).heap.size = W.heap.size + 1 := World.size_alloc _ _
  clear hY h0 hW hboxS hboxH hh hb1 hyb hS1 hH1 hJ hJx hJin hm hp hn hSlt hHlt
  refine callsIn_of_wp_marks Try.func39 rfl trivial ?_ rfl
  simp only [Try.ntmps39, List.size_toArray, List.length_cons, List.length_nil, Nat.reduceAdd, Nat.reduceSub, Array.replicate_succ, Array.replicate_zero, List.push_toArray, List.append_toArray, List.nil_append, List.cons_append]
  gi_wp2_with fail
  refine ⟨trivial, rfl, ?_⟩
  refine callsIn_wide.2 ((allf_c _ _).mono ?_)
  rintro e w5 ⟨rfl, hw5⟩
  generalize W.alloc (.cells #[.func (.yield l) #[] #[]] 47) = W1 at *
  obtain ⟨hyb, hS1, hh1, hb1, hSlt, hhblt⟩ := H1.out
  have hb15 : Below W1.heap.size W1 w5 := hw5 ▸ bA' (Below.refl _ _) (Nat.le_refl _) _
  have hs5 : w5.heap.size = W.heap.size + 2 := by rw [hw5, World.size_alloc, hs1]
  have hbx : w5.heap[W1.heap.size]? = some (.cells #[.pointer (some ⟨hb, 0, none⟩)] 24 (0, 0)) := hw5 ▸ World.alloc_heap_new W1 _
  have hseq := all_seqP W1.heap.size hb mb sv es m w5 HM.out.1 HM.out.2.1 HM.out.2.2 hbx (hh1.below hb15)
  have H5 := Lib.hid (And.intro ((hb15.block _ (Array.getElem?_eq_some_iff.1 hyb).1).trans hyb) (And.intro ((hb15.block _ (Array.getElem?_eq_some_iff.1 hS1).1).trans hS1) (And.intro (bT2 hb1 hb15) (And.intro hs5 (And.intro hSlt (And.intro hhblt hs1))))))
  have EG : ∀ args w, (callFunc 36 args).run Try.prog w = .ok (.enter 36 args) w := enters_of Try.func36 (by kernel_rfl) rfl
  clear hyb hS1 hh1 hb1 hb15 hbx hw5 H1 cS cH hSlt hhblt
  rw [hs1] at hseq
  gi_wp2_with fail
  refine range_lawP (gf := 36) (lb := #[.pointer (some ⟨W.heap.size + 1, 0, none⟩)]) (old := fun b => b = W.heap.size + 1 ∨ b = hb) rfl EG hseq (fun _ => rfl)
    (fun hi k Wq => J hi k Wq ∧ k ≤ N ∧ Wq.heap[W.heap.size]? = some (.cells #[.func (.yield l) #[] #[]] 47 (0, 0)) ∧ Wq.heap[Sv]? = some (.cells #[.func (.func 26) #[] #[]] 47 (0, 0)))
    (fun c hi _ Wq => c = .ret ∧ (J hi N Wq ∨ ∃ k', k' ≤ N ∧ Jx hi k' Wq)) ?hI ?hIx ?hIn ?h0
    (fun hi k a' Wq => ∃ bx, a' = actW W.heap.size Sv Hv hb (W.heap.size + 1) l bx (Hp.g m k) ∧ Wq.heap[bx]? = some (.cells #[.int .i64 (Hp.g m k).1, .int .i64 (Hp.g m k).2] 33 (0, 0))) ?hAx ?assign ?body ?done ?stop
  case hI =>
    rintro hi k A C row ⟨h1, h2, h3, h4⟩ hgr hr
    exact ⟨own_mono' (HJ.out.1 hi) (by omega) _ A C row h1 hgr hr, h2, cells_own hgr hr h3, cells_own hgr hr h4⟩
  case hIx =>
    rintro c hi k A C row ⟨h1, h2⟩ hgr hr
    refine ⟨h1, h2.imp (fun h => own_mono' (HJ.out.1 hi) (by omega) _ A C row h hgr hr) fun ⟨k', h3, h4⟩ => ⟨k', h3, own_mono' (HJ.out.2.1 hi) (by omega) _ A C row h4 hgr hr⟩⟩
  case hIn =>
    rintro hi k A C hlo hhi ⟨h1, h2, h3, h4⟩ hin
    have := H5.out.2.2.2.2.1
    exact ⟨HJ.out.2.2.1 hi k A C (by omega) hhi h1 (hin.mono (by omega)), h2, (hin.block _ (Array.getElem?_eq_some_iff.1 h3).1 (by omega)).trans h3, (hin.block _ (Array.getElem?_eq_some_iff.1 h4).1 (by omega)).trans h4⟩
  case h0 =>
    intro W' hb' _
    obtain ⟨h1, h2, h3, _⟩ := H5.out
    exact ⟨HJ.out.2.2.2 W' (bT2 h3 hb'), Nat.zero_le _, (hb'.block _ (Array.getElem?_eq_some_iff.1 h1).1).trans h1, (hb'.block _ (Array.getElem?_eq_some_iff.1 h2).1).trans h2⟩
  case hAx =>
    rintro hi k a' s A C row ⟨bx, e, hb⟩ hgr hr
    exact ⟨bx, e, cells_own hgr hr hb⟩
  case assign =>
    rintro l2 hi k Wq K _ _ ⟨hj, hkN, hyq, hSq⟩ hk hK
    have hbq := bA' (Below.refl Wq.heap.size Wq) (Nat.le_refl _) (.cells #[.int .i64 (Hp.g m k).1, .int .i64 (Hp.g m k).2] 33)
    have hj2 := (HJ.out.1 hi).alloc (.cells #[.int .i64 (Hp.g m k).1, .int .i64 (Hp.g m k).2] 33) hj
    have H9 := Lib.hid (And.intro hbq (And.intro (And.intro hj2 (And.intro hkN (And.intro ((hbq.block _ (Array.getElem?_eq_some_iff.1 hyq).1).trans hyq) ((hbq.block _ (Array.getElem?_eq_some_iff.1 hSq).1).trans hSq)))) (World.alloc_heap_new Wq (.cells #[.int .i64 (Hp.g m k).1, .int .i64 (Hp.g m k).2] 33))))
    have HKK := Lib.hid hK
    obtain ⟨x, hx⟩ : ∃ x, Hp.g m k = x := ⟨_, rfl⟩
    rw [hx] at H9 HKK ⊢
    clear hbq hj2 hj hkN hyq hSq hK hx hseq EG
    gi_wp2
    exact HKK.out _ _ H9.out.1 H9.out.2.1 ⟨Wq.heap.size, rfl, H9.out.2.2⟩
  case body =>
    rintro l2 hi k a' Wq hlo hhi ⟨hj, hkN, hyq, hSq⟩ ⟨bx, rfl, hbxq⟩ hk
    obtain ⟨x, hx⟩ : ∃ x, Hp.g m k = x := ⟨_, rfl⟩
    rw [hx] at hbxq ⊢
    obtain ⟨x0, x1, _⟩ := cell_two hbxq
    have cS : Wq.cell? ⟨Sv, 0, none⟩ = some (.func (.func 26) #[] #[]) := by unfold World.cell?; rw [hSq]; rfl
    have cY : Wq.cell? ⟨W.heap.size, 0, none⟩ = some (.func (.yield l) #[] #[]) := by unfold World.cell?; rw [hyq]; rfl
    have KE := Lib.hid (low_c x.2 Wq)
    by_cases he : k < N
    · have hlow : decide (x.2 ≤ 4) = true := by have := tw_lt m k (by rw [HN.out]; exact he); rw [hx] at this; exact this
      obtain ⟨fn, tm, asg, bd, hy, hR⟩ := HY.out hi k Wq (by omega) hhi hj he
      rw [hx] at hy
      have HQ := Lib.hid (And.intro hyq (And.intro hSq (And.intro hlo hlow)))
      have HB := Lib.hid hs5
      clear hj hkN hyq hSq hbxq hx hlow hseq EG hlo hhi
      unfold actW
      gi_wp2_with fail
      refine ⟨trivial, rfl, ?_⟩
      refine (CallsIn.inRound l2 (callsIn_wide.2 KE.out)).mono ?_
      rintro e W6 ⟨rfl, rfl⟩
      rw [HQ.out.2.2.2]
      gi_wp2
      refine ⟨rfl, hR.mono ?_⟩
      rintro e W9 (⟨rfl, hj9, hk9, hf9⟩ | ⟨rfl, hjx9, hf9⟩)
      · have H9 := Lib.hid (And.intro hj9 (And.intro hk9 hf9))
        clear hj9 hk9 hf9 hR hy cS cY x0 x1
        gi_wp2
        obtain ⟨hj9, hk9, hf9⟩ := H9.out
        obtain ⟨hyq, hSq, hlo, _⟩ := HQ.out
        refine ⟨from_mono hf9 (by omega), ⟨hk9.size, fun b o hb => hk9.same b o ?_⟩, hj9, he, hk9.same _ _ (.inr (by omega)) hyq rfl, hk9.same _ _ (.inl (.inl rfl)) hSq rfl⟩
        rcases hb with (rfl | rfl) | h
        · exact .inr (by omega)
        · exact .inl (.inr (.inr rfl))
        · exact .inr (by omega)
      · have H9 := Lib.hid (And.intro hjx9 hf9)
        clear hjx9 hf9 hR hy cS cY x0 x1
        gi_wp2
        exact ⟨from_mono H9.out.2 (by omega), rfl, .inr ⟨k + 1, he, H9.out.1⟩⟩
    · obtain rfl : k = N := by omega
      have hlow : decide (x.2 ≤ 4) = false := by have := tw_end m (by rw [HN.out]; exact hk); rw [HN.out, hx] at this; exact this
      have HQ := Lib.hid (And.intro hj hlow)
      clear hj hkN hyq hSq hbxq hx hlow hseq EG hlo hhi
      unfold actW
      gi_wp2_with fail
      refine ⟨trivial, rfl, ?_⟩
      refine (CallsIn.inRound l2 (callsIn_wide.2 KE.out)).mono ?_
      rintro e W6 ⟨rfl, rfl⟩
      rw [HQ.out.2]
      gi_wp2
      refine ⟨(fun f h => by cases h), ?_⟩
      gi_wp2
      exact ⟨KeepsFrom.refl _ _, rfl, .inl HQ.out.1⟩
  case done =>
    rintro D hi Wq hD hlo ⟨hj, hkN, _, _⟩ hdef
    have hNm : N = m.length := by have := tw_le m; have := HN.out; omega
    have H9 := Lib.hid (And.intro hj (And.intro hdef (And.intro hNm (And.intro hD hlo))))
    clear hj hdef hseq EG hkN hNm hD hlo
    gi_wp2
    obtain ⟨hj, hdef, hNm, hD, hlo⟩ := H9.out
    refine ⟨by simp, .inl ⟨_, _, rfl, run_takeDeferred hdef, ?_⟩⟩
    exact ⟨_, results_none rfl _ _ _, ⟨_, rfl⟩, hi, by omega, .inl (by rw [hNm]; exact (HJ.out.1 hi).putObj _ hj (by omega) hdef rfl)⟩
  case stop =>
    rintro D hi c k Wq hD hlo hk ⟨rfl, h⟩ hdef
    have H9 := Lib.hid (And.intro h (And.intro hdef (And.intro hD hlo)))
    clear h hdef hseq EG hD hlo
    gi_wp2
    obtain ⟨h, hdef, hD, hlo⟩ := H9.out
    refine ⟨by simp, .inl ⟨_, _, rfl, run_takeDeferred hdef, ?_⟩⟩
    exact ⟨_, results_none rfl _ _ _, ⟨_, rfl⟩, hi, by omega, h.imp (fun h => (HJ.out.1 hi).putObj _ h (by omega) hdef rfl) fun ⟨k', h3, h4⟩ => ⟨k', h3, (HJ.out.2.1 hi).putObj _ h4 (by omega) hdef rfl⟩⟩
end Go.Proofs.Ytngeinmpnjfhfaa
