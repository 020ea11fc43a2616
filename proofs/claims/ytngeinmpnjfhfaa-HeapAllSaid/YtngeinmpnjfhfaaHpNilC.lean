/-
  The law HeapNil over this seat's translation: a nil heap has nothing. Conditions: those that each theorem states.
-/
import Derived.Test.YtngeinmpnjfhfaaHpNilM
import Derived.Test.YtngeinmpnjfhfaaHpRangeF
namespace Go.Proofs.Ytngeinmpnjfhfaa
open Go.RowKit Go.Shelf Go.Lib Go.Sort Hp Go.Maps
attribute [local go_sem] Oper.semAt_some

set_option maxHeartbeats 1000000 in
theorem allf_c (p : Option Addr) (w : World) : Calls Try.prog 25 #[.pointer p] w fun e w' =>
    e = .returned (.func (.func 36) #[] #[.pointer (some ⟨w.heap.size, 0, none⟩)]) ∧ w' = w.alloc (.cells #[.pointer p] 24) := by
  go_enter Try.func25, Try.ntmps25
  go_wp2
  go_ret
  exact ⟨rfl, rfl⟩

set_option maxRecDepth 100000 in
set_option maxHeartbeats 4000000 in
theorem allNil_seq (Bv : Nat) (safe : Nat → Obj → Prop) (w : World) (hbox : w.heap[Bv]? = some (.cells #[.pointer none] 24 (0, 0))) :
    SeqN 36 #[.pointer (some ⟨Bv, 0, none⟩)] 0 (fun _ => #[.agg #[.int .i64 0, .int .i64 0]]) safe w := by
  intro l J Jx W hW hJ hJx hY h0
  have c0 : W.cell? ⟨Bv, 0, none⟩ = some (.pointer none) := by unfold World.cell?; rw [hW.block Bv (Array.getElem?_eq_some_iff.1 hbox).1, hbox]; rfl
  have H0 := Lib.hid h0
  clear hY h0
  refine callsIn_of_wp Try.func36 rfl trivial ?_ rfl
  simp only [Try.ntmps36, List.size_toArray, List.length_cons, List.length_nil, Nat.reduceAdd, Nat.reduceSub, Array.replicate_succ, Array.replicate_zero, List.push_toArray, List.append_toArray, List.nil_append, List.cons_append]
  gi_wp2
  refine bodyPost_ret (results_none rfl _ _ _) rfl ?_
  exact ⟨⟨_, rfl⟩, .inl H0.out⟩

set_option maxRecDepth 100000 in
set_option maxHeartbeats 4000000 in
theorem appendNil_c (Bv : Nat) (w : World) (hbox : w.heap[Bv]? = some (.cells #[.pointer none] 24 (0, 0))) :
    Calls Try.prog 35 #[.slice none 0 0, .func (.func 36) #[] #[.pointer (some ⟨Bv, 0, none⟩)]] w fun e w' => e = .returned (.slice none 0 0) ∧ Below w.heap.size w w' := by
  have EG : ∀ args w, (callFunc 36 args).run Try.prog w = .ok (.enter 36 args) w := enters_of Try.func36 (by kernel_rfl) rfl
  obtain ⟨W0, hW0⟩ : ∃ W0, w.alloc (.cells #[.slice none 0 0] 50) = W0 := ⟨_, rfl⟩
  have hb0 : Below w.heap.size w W0 := hW0 ▸ bA' (Below.refl _ w) (Nat.le_refl _) _
  have hv0 : W0.heap[w.heap.size]? = some (.cells #[.slice none 0 0] 50 (0, 0)) := hW0 ▸ World.alloc_heap_new w _
  have hs0 : W0.heap.size = w.heap.size + 1 := by rw [← hW0]; simp
  have hbx0 := (hb0.block Bv (Array.getElem?_eq_some_iff.1 hbox).1).trans hbox
  have HW0 := Lib.hid hW0
  have HB0 := Lib.hid (And.intro hb0 (And.intro hv0 hs0))
  clear hW0 hb0 hv0 hs0 hbox
  refine (callsIn_wide (n := 0)).1 ?_
  refine callsIn_of_wp_marks Try.func35 rfl trivial ?_ rfl
  simp only [Try.ntmps35, List.size_toArray, List.length_cons, List.length_nil, Nat.reduceAdd, Nat.reduceSub, Array.replicate_succ, Array.replicate_zero, List.push_toArray, List.append_toArray, List.nil_append, List.cons_append]
  gi_wp2
  rw [HW0.out]
  have hseq := allNil_seq Bv (fun _ o => o.isCells = true) W0 hbx0
  refine range_law (gf := 36) (lb := #[.pointer (some ⟨Bv, 0, none⟩)]) rfl EG (fun bb o h => h) hseq (fun _ => rfl)
    (fun _ W => Below W0.heap.size W0 W) (fun _ _ _ => False) ?hI ?hIx (Below.refl _ _) (fun k a' _ => False) ?hAx ?assign ?body ?done ?stop
  case hI => exact own_below_at
  case hIx => rintro c s A C row h; exact h.elim
  case hAx => rintro k a' s A C row h hgr hr; exact h
  case assign => rintro l k W K hj hk hsz hK; omega
  case body => rintro l k a' W h hsz hax hk; omega
  case stop => exact fun D c k W _ _ h _ => h.elim
  case done =>
    rintro D W hD h1 hdef
    have hbW : Below w.heap.size w W := by have := HB0.out.1; exact bT' this h1 this.size
    have hvW := (h1.block _ (Array.getElem?_eq_some_iff.1 HB0.out.2.1).1).trans HB0.out.2.1
    have c0 : W.cell? ⟨w.heap.size, 0, none⟩ = some (.slice none 0 0) := by unfold World.cell?; rw [hvW]; rfl
    have HD := Lib.hid (show w.heap.size ≤ D from by have := HB0.out.2.2; omega)
    have H1 := Lib.hid (And.intro hbW hdef)
    clear hbW hdef hvW h1 hD hseq
    gi_wp2
    refine ⟨by simp, .inl ⟨_, _, rfl, run_takeDeferred H1.out.2, ?_⟩⟩
    have hb := H1.out.1
    exact ⟨_, results_tmp rfl _ _ _, rfl, hb.os, hb.tape, hb.output, by have := hb.size; simpa using this, fun j hj => (World.putObj_heap_other (by have := HD.out; omega)).trans (hb.block j hj)⟩

set_option maxHeartbeats 1000000 in
theorem collectNil_c (Bv : Nat) (w : World) (hbox : w.heap[Bv]? = some (.cells #[.pointer none] 24 (0, 0))) :
    Calls Try.prog 24 #[.func (.func 36) #[] #[.pointer (some ⟨Bv, 0, none⟩)]] w fun e w' => e = .returned (.slice none 0 0) ∧ Below w.heap.size w w' := by
  have KA := Lib.hid (appendNil_c Bv w hbox)
  clear hbox
  go_enter Try.func24, Try.ntmps24
  go_wp2_with fail
  refine KA.out.mono ?_
  rintro e w2 ⟨rfl, hb2⟩
  have HB := Lib.hid hb2
  clear hb2
  go_wp2
  go_ret
  exact ⟨rfl, HB.out⟩

set_option maxRecDepth 1000000 in
set_option maxHeartbeats 16000000 in
theorem nil_c (k b : Int) (w : World) : Calls Try.prog 6 #[.int .i64 k, .int .i64 b] w fun e w' => e = .returned (.bool true) ∧ Below w.heap.size w w' := by
  have KS := setNil_c k b w
  go_enter Try.func6, Try.ntmps6
  go_wp2_with fail
  refine KS.mono ?_
  rintro e w1 ⟨rfl, hb1⟩
  have HB := Lib.hid hb1
  have KG := getNil_c k w1
  clear hb1 KS
  go_wp2_with fail
  refine KG.mono ?_
  rintro e w2 ⟨rfl, hb2⟩
  have HB := Lib.hid (bT' HB.out hb2 HB.out.size)
  have KM := minNil_c w2
  clear hb2 KG
  go_wp2_with fail
  refine KM.mono ?_
  rintro e w3 ⟨rfl, hb3⟩
  have hb3' := hb3.alloc hb3.size (.cells #[.int .i64 0, .int .i64 0] 33)
  have HB := Lib.hid (bT' HB.out hb3' HB.out.size)
  have KP := popNil_c (w3.alloc (.cells #[.int .i64 0, .int .i64 0] 33))
  clear hb3 hb3' KM
  go_wp2_with fail
  refine KP.mono ?_
  rintro e w4 ⟨rfl, hb4⟩
  have hb4' := hb4.alloc hb4.size (.cells #[.int .i64 0, .int .i64 0] 33)
  have HB := Lib.hid (bT' HB.out hb4' HB.out.size)
  have KA := awake_c (w4.alloc (.cells #[.int .i64 0, .int .i64 0] 33))
  clear hb4 hb4' KP
  go_wp2_with fail
  refine KA.mono ?_
  rintro e w5 ⟨rfl, hb5⟩
  have HB := Lib.hid (bT' HB.out hb5 HB.out.size)
  have KD := delNil_c k w5
  clear hb5 KA
  go_wp2_with fail
  refine KD.mono ?_
  rintro e w6 ⟨rfl, hb6⟩
  have HB := Lib.hid (bT' HB.out hb6 HB.out.size)
  have KL := lenNil_c w6
  clear hb6 KD
  go_wp2_with fail
  refine KL.mono ?_
  rintro e w7 ⟨rfl, rfl⟩
  have KF := allf_c none w6
  clear KL
  go_wp2_with fail
  refine KF.mono ?_
  rintro e w8 ⟨rfl, hw8⟩
  have KC := collectNil_c w6.heap.size w8 (by rw [hw8]; exact World.alloc_heap_new w6 _)
  have HB := Lib.hid (show Below w.heap.size w w8 from by rw [hw8]; exact HB.out.alloc HB.out.size _)
  clear hw8 KF
  go_wp2_with fail
  refine KC.mono ?_
  rintro e w9 ⟨rfl, hb9⟩
  have HB := Lib.hid (bT' HB.out hb9 HB.out.size)
  have KN := newNil_c w9
  clear hb9 KC
  go_wp2_with fail
  refine KN.mono ?_
  rintro e w10 ⟨rfl, rfl⟩
  go_wp2
  go_ret
  exact ⟨rfl, HB.out⟩
end Go.Proofs.Ytngeinmpnjfhfaa
