/-
  bag's Where at ints, by even, over this seat's translation: the things of which something is so, in order. Conditions: those that each theorem states.
-/
import Derived.Test.YtfjipkkhjjpaiaaSortsC
namespace Go.Proofs.Ytfjipkkhjjpaiaa
open Go.RowKit Go.Shelf Go.Lib Go.Sort St
attribute [local go_sem] Oper.semAt_some

/-- Is a number even? -/
def evn (x : Int) : Bool := Int.tmod x 2 == 0

set_option maxHeartbeats 1000000 in
theorem even_c (x : Int) (w : World) : Calls Try.prog 31 #[.int .i64 x] w fun e w' => e = .returned (.bool (evn x)) ∧ w' = w := by
  have hw : IntKind.i64.wrap (Int.tmod x 2) = Int.tmod x 2 := by
    have h1 := Int.tmod_two_eq x
    rcases h1 with h | h | h <;> rw [h] <;> decide
  unfold evn
  go_enter Try.func31, Try.ntmps31
  go_wp2
  go_ret
  exact ⟨rfl, rfl⟩

set_option maxHeartbeats 1000000 in
theorem where_c (p : Option Addr) (w : World) : Calls Try.prog 32 #[.pointer p, .func (.func 31) #[] #[]] w fun e w' =>
    e = .returned (.func (.func 50) #[] #[.pointer (some ⟨w.heap.size + 1, 0, none⟩), .pointer (some ⟨w.heap.size, 0, none⟩)]) ∧ w' = (w.alloc (.cells #[.pointer p] 25)).alloc (.cells #[.func (.func 31) #[] #[]] 60) := by
  go_enter Try.func32, Try.ntmps32
  go_wp2
  go_ret
  exact ⟨rfl, rfl⟩

/-- How many of the first k are even. -/
def evs (xs : List Int) (k : Nat) : Nat := ((xs.take k).filter evn).length
theorem evs_succ {xs : List Int} {k : Nat} (hk : k < xs.length) : evs xs (k + 1) = evs xs k + if evn xs[k] then 1 else 0 := by
  unfold evs
  rw [List.take_add_one, List.getElem?_eq_getElem hk, List.filter_append, List.length_append]
  congr 1
  cases h : evn xs[k] <;> simp [h]
theorem evs_at {xs : List Int} {k : Nat} (hk : k < xs.length) (he : evn xs[k] = true) : evs xs k < (xs.filter evn).length ∧ (xs.filter evn).getD (evs xs k) default = xs[k] := by
  have h := List.take_append_drop k xs
  rw [List.drop_eq_getElem_cons hk] at h
  have h2 : xs.filter evn = (xs.take k).filter evn ++ (xs[k] :: (xs.drop (k + 1)).filter evn) := by
    conv => lhs; rw [← h]
    rw [List.filter_append, List.filter_cons_of_pos he]
  unfold evs
  rw [h2]
  refine ⟨by rw [List.length_append, List.length_cons]; omega, ?_⟩
  rw [List.getD_eq_getElem?_getD, List.getElem?_append_right (Nat.le_refl _), Nat.sub_self]
  rfl
theorem evs_all (xs : List Int) : evs xs xs.length = (xs.filter evn).length := by unfold evs; rw [List.take_length]

theorem kept_own {safe : Nat → Obj → Prop} (hsafe : ∀ b o, safe b o → o.isCells = true) {A C : World} {B : Nat} {row : Option Nat} (hgr : A.grownBy C row) (hr : ∀ r, row = some r → B ≤ r ∧ ∃ o : Obj, A.heap[r]? = some o ∧ o.isCells = false) : Kept safe A C :=
  ⟨hgr.size, fun b o hs hb => (hgr.block b (Array.getElem?_eq_some_iff.1 hb).1 (fun e => by
    obtain ⟨_, u, hu, hc⟩ := hr b e.symm
    rw [hb] at hu
    cases hu
    rw [hsafe b _ hs] at hc
    cases hc)).trans hb⟩
theorem own_mono' {β : Type} {B B' : Nat} {I : β → World → Prop} (h : OwnFrom B I) (hb : B ≤ B') : OwnFrom B' I := fun s A C row hs hg hr => h s A C row hs hg fun r e => ⟨by have := (hr r e).1; omega, (hr r e).2⟩

set_option maxRecDepth 100000 in
set_option maxHeartbeats 8000000 in
theorem where_seq (Bs Bv b : Nat) (sv : Value) (xs : List Int) (safe : Nat → Obj → Prop) (w : World) (hn : xs.length ≤ 1000000) (hsafe : ∀ b o, safe b o → o.isCells = true)
    (hboxS : Box w Bs (.func (.func 31) #[] #[]) 60) (hsS : safe Bs (.cells #[.func (.func 31) #[] #[]] 60 (0, 0)))
    (hboxV : Box w Bv (.pointer (some ⟨b, 0, none⟩)) 25) (hbag : BagSI w b sv xs) (hnew : ∀ k o, w.heap.size ≤ k → o.isCells = true → safe k o) :
    SeqN 50 #[.pointer (some ⟨Bs, 0, none⟩), .pointer (some ⟨Bv, 0, none⟩)] (xs.filter evn).length (fun k => #[.int .i64 ((xs.filter evn).getD k default)]) safe w := by
  intro l J Jx W hW hJ hJx hY h0
  have hsz := hW.size
  have hb1 : Below W.heap.size W (W.alloc (.cells #[.func (.yield l) #[] #[]] 60)) := bA' (Below.refl _ _) (Nat.le_refl _) _
  have hyb := Box.new W (.func (.yield l) #[] #[]) 60
  have hbS1 : Box (W.alloc (.cells #[.func (.yield l) #[] #[]] 60)) Bs (.func (.func 31) #[] #[]) 60 := Box.below ((hW.block _ hboxS.lt).trans hboxS) hb1
  have hbV1 : Box (W.alloc (.cells #[.func (.yield l) #[] #[]] 60)) Bv (.pointer (some ⟨b, 0, none⟩)) 25 := Box.below ((hW.block _ hboxV.lt).trans hboxV) hb1
  have hbg1 : BagSI (W.alloc (.cells #[.func (.yield l) #[] #[]] 60)) b sv xs := BagSI.below (hbag.same (hW.block _ hbag.lt.1) fun g e => hW.block _ (hbag.lt.2 g e)) hb1
  have hj1 : J 0 (W.alloc (.cells #[.func (.yield l) #[] #[]] 60)) := hJ _ _ _ none h0 (grown_of_below hb1) (fun r e => by cases e)
  have cS := hbS1.cell
  have cV := hbV1.cell
  have hnil : ∀ w : World, (binOp BinOp.eql 60 (.func (.func 31) #[] #[]) .nilFunc).run Try.prog w = .ok (.bool false) w := fun _ => by kernel_rfl
  have HY := Lib.hid hY
  have H1 := Lib.hid (And.intro hyb (And.intro hbS1 (And.intro hbg1 (And.intro hj1 hb1))))
  have hs1 : (W.alloc (.cells #[.func (.yield l) #[] #[]] 60)).heap.size = W.heap.size + 1 := World.size_alloc _ _
  clear hY h0 hW hboxS hboxV hbag hb1 hyb hbS1 hbV1 hbg1 hj1
  refine callsIn_of_wp_marks Try.func50 rfl trivial ?_ rfl
  simp only [Try.ntmps50, List.size_toArray, List.length_cons, List.length_nil, Nat.reduceAdd, Nat.reduceSub, Array.replicate_succ, Array.replicate_zero, List.push_toArray, List.append_toArray, List.nil_append, List.cons_append]
  gi_wp2_with fail
  refine ⟨trivial, rfl, ?_⟩
  refine callsIn_wide.2 ((all_c _ _).mono ?_)
  rintro e w5 ⟨rfl, hw5⟩
  generalize W.alloc (.cells #[.func (.yield l) #[] #[]] 60) = W1 at *
  obtain ⟨hyb, hbS1, hbg1, hj1, hb1⟩ := H1.out
  have hb15 : Below W1.heap.size W1 w5 := hw5 ▸ bA' (Below.refl _ _) (Nat.le_refl _) _
  have hs5 : w5.heap.size = W.heap.size + 2 := by rw [hw5, World.size_alloc, hs1]
  have hbx : w5.heap[W1.heap.size]? = some (.cells #[.pointer (some ⟨b, 0, none⟩)] 25 (0, 0)) := hw5 ▸ World.alloc_heap_new W1 _
  have hj5 : J 0 w5 := hJ _ _ _ none hj1 (grown_of_below hb15) (fun r e => by cases e)
  have H5 := Lib.hid (And.intro (hyb.below hb15) (And.intro (hbS1.below hb15) (And.intro hj5 (And.intro hsS (show safe W.heap.size (.cells #[.func (.yield l) #[] #[]] 60 (0, 0)) from hnew _ _ hsz rfl)))))
  have hseq := all_seq W1.heap.size b sv xs safe w5 hn hbx (hbg1.below hb15) (fun k o h1 h2 => hnew k o (by omega) h2)
  obtain ⟨pl, hpl⟩ : ∃ pl : Nat → Int, ∀ k, xs.getD k default = pl k := ⟨fun k => xs.getD k default, fun _ => rfl⟩
  rw [show (fun k : Nat => (#[.int .i64 (k : Int), .int .i64 (xs.getD k default)] : Array Value)) = fun k => #[.int .i64 (k : Int), .int .i64 (pl k)] from funext fun k => by rw [hpl]] at hseq
  have EG : ∀ args w, (callFunc 38 args).run Try.prog w = .ok (.enter 38 args) w := enters_of Try.func38 (by kernel_rfl) rfl
  clear hyb hbS1 hbg1 hj1 hb1 hb15 hbx hj5 hw5 H1 cS cV hs1
  have HPL := Lib.hid hpl
  have HSF := Lib.hid hsafe
  clear hpl
  gi_wp2_with fail
  apply range_lawF (gf := 38) (lb := #[.pointer (some ⟨W1.heap.size, 0, none⟩)]) rfl EG hsafe hseq (fun _ => rfl)
    (fun k Wq => J (evs xs k) Wq ∧ Kept safe w5 Wq) (fun c _ Wq => c = .ret ∧ ∃ m, m ≤ (xs.filter evn).length ∧ Jx m Wq) ?hI ?hIx ⟨H5.out.2.2.1, Kept.below (Below.refl _ _)⟩ _ ?assign ?body ?done ?stop
  case assign =>
    rintro l2 k Wq K hj hk hsz2 hK
    have HJ := Lib.hid hj
    clear hj
    gi_wp2
    exact hK _ (Below.refl _ _) HJ.out
  case hI =>
    rintro k A C row ⟨h1, h2⟩ hgr hr
    exact ⟨own_mono' hJ (by omega) _ A C row h1 hgr hr, h2.trans (kept_own hsafe hgr hr)⟩
  case hIx =>
    rintro c k A C row ⟨h1, m, h2, h3⟩ hgr hr
    exact ⟨h1, m, h2, own_mono' hJx (by omega) _ A C row h3 hgr hr⟩
  case body =>
    rintro l2 k Wq ⟨hj, hkp⟩ hsz2 hk
    have hS : Box Wq Bs (.func (.func 31) #[] #[]) 60 := hkp.same _ _ H5.out.2.2.2.1 H5.out.2.1
    have hYb : Box Wq W.heap.size (.func (.yield l) #[] #[]) 60 := hkp.same _ _ H5.out.2.2.2.2 H5.out.1
    have cS := hS.cell
    have cY := hYb.cell
    have hxk : pl k = xs[k] := by rw [← HPL.out, seekd_I xs k hk]
    have KE := Lib.hid (even_c (pl k) Wq)
    have hes := evs_succ hk
    rw [← hxk] at hes
    by_cases he : evn (pl k) = true
    · obtain ⟨hlt, hat⟩ := evs_at hk (by rw [← hxk]; exact he)
      rw [he, if_pos rfl] at hes
      obtain ⟨fn, tm, asg, bd, hy, hR⟩ := HY.out (evs xs k) Wq hj hlt
      rw [hat, ← hxk] at hy
      have HK := Lib.hid (And.intro hkp hes)
      clear hj hkp hS hYb hxk hes hat
      gi_wp2_with fail
      refine ⟨trivial, rfl, ?_⟩
      refine (CallsIn.inRound l2 (callsIn_wide.2 KE.out)).mono ?_
      rintro e W6 ⟨rfl, rfl⟩
      rw [he]
      gi_wp2
      refine ⟨rfl, hR.mono ?_⟩
      rintro e W9 (⟨rfl, hj9, hk9, hf9⟩ | ⟨rfl, hjx9, hf9⟩)
      · have H9 := Lib.hid (show _ ∧ _ ∧ _ from ⟨hj9, hk9, hf9⟩)
        clear hj9 hk9 hf9 hR hy cS cY
        gi_wp2
        exact ⟨from_mono H9.out.2.2 (by omega), H9.out.2.1, by rw [HK.out.2]; exact H9.out.1, HK.out.1.trans H9.out.2.1⟩
      · have H9 := Lib.hid (show _ ∧ _ from ⟨hjx9, hf9⟩)
        clear hjx9 hf9 hR hy cS cY
        gi_wp2
        exact ⟨from_mono H9.out.2 (by omega), rfl, _, hlt, H9.out.1⟩
    · have he : evn (pl k) = false := by simpa using he
      rw [he, if_neg (by decide)] at hes
      have HK := Lib.hid (show J (evs xs (k + 1)) Wq ∧ Kept safe w5 Wq from ⟨by rw [hes]; exact hj, hkp⟩)
      clear hj hkp hS hYb hxk hes
      gi_wp2_with fail
      refine ⟨trivial, rfl, ?_⟩
      refine (CallsIn.inRound l2 (callsIn_wide.2 KE.out)).mono ?_
      rintro e W6 ⟨rfl, rfl⟩
      rw [he]
      gi_wp2
      refine ⟨(fun f h => by cases h), ?_⟩
      gi_wp2
      exact ⟨KeepsFrom.refl _ _, Kept.below (Below.refl _ _), HK.out⟩
  case done =>
    rintro D Wq hD ⟨hj, _⟩ hdef
    have H9 := Lib.hid (And.intro hj hdef)
    clear hj hdef hseq EG
    gi_wp2
    refine ⟨by simp, .inl ⟨_, _, rfl, run_takeDeferred H9.out.2, ?_⟩⟩
    exact ⟨_, results_none rfl _ _ _, ⟨_, rfl⟩, .inl (by rw [← evs_all]; exact hJ.putObj _ H9.out.1 (by omega) H9.out.2 rfl)⟩
  case stop =>
    rintro D c k Wq hD hk ⟨rfl, m, hm, hjx⟩ hdef
    have H9 := Lib.hid (And.intro hjx hdef)
    clear hjx hdef hseq EG
    gi_wp2
    refine ⟨by simp, .inl ⟨_, _, rfl, run_takeDeferred H9.out.2, ?_⟩⟩
    exact ⟨_, results_none rfl _ _ _, ⟨_, rfl⟩, .inr ⟨m, hm, hJx.putObj _ H9.out.1 (by omega) H9.out.2 rfl⟩⟩
end Go.Proofs.Ytfjipkkhjjpaiaa
