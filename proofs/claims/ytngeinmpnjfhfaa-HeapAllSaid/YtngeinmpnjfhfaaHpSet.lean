/-
  heap's Set over this seat's translation. Conditions: those that each theorem states.
-/
import Derived.Test.YtngeinmpnjfhfaaHpTake
import Derived.Deep.RegionWith
namespace Go.Proofs.Ytngeinmpnjfhfaa
open Go.RowKit Go.Shelf Go.Lib Go.Sort Hp Go.Maps

theorem lies_row {W : World} {sv : Value} {es : List It} {p : Option Addr} {cap : Nat} (hs : sv = .slice p es.length cap) (h : W.ownsRow 0 33 2 sv es.length (es.flatMap It.cells)) : Lies W p es := by
  subst hs
  rcases id h.2 with ⟨e, _⟩ | ⟨g, cap', cur, e, _⟩
  · simp at e
    intro i hi
    rw [e.2.1] at hi
    exact absurd hi (Nat.not_lt_zero _)
  · simp at e
    obtain ⟨rfl, rfl⟩ := e
    have hr : RowIs It.cells 2 33 g es.length cap W es := ⟨rfl, h⟩
    exact hr.lies

set_option maxHeartbeats 16000000 in
set_option maxRecDepth 100000 in
theorem set_c (hb mb : Nat) (k by0 : Int) (sv : Value) (es : List It) (w : World) (h : HeapS w hb sv mb es) (hk : W64 k) (hlen : es.length + 1 ≤ 1000000) :
    Calls Try.prog 17 #[.pointer (some ⟨hb, 0, none⟩), .int .i64 k, .int .i64 by0] w fun r w' => r = .returned (.tuple #[]) ∧ ∃ sv' es', HeapS w' hb sv' mb es' ∧ es'.Perm ((k, by0) :: sans es k) ∧ (sv'.ownBlock = sv.ownBlock ∨ ∀ g, sv'.ownBlock = some g → w.heap.size ≤ g) ∧ TouchH hb mb sv.ownBlock w w' := by
  have mixed : Try.prog.follows .mixedOrders = true := by kernel_rfl
  have eg : ∀ args w, (callFunc 32 args).run Try.prog w = .ok (.enter 32 args) w := enters_of Try.func32 (by kernel_rfl) rfl
  obtain ⟨p, cap, hsv, hp⟩ := h.slice
  obtain ⟨D, m, o1, o2, o3⟩ := h.tab
  have hbox := h.box
  rw [hsv] at hbox
  have KF := find_c hb mb es.length cap es.length k (.func (.func 10) #[] #[]) p D m w hbox o1 o2 hk
  have hLies := lies_row hsv h.row
  have HH := Lib.hid h
  have HO := Lib.hid (And.intro o1 o3)
  have HI := Lib.hid o2
  have HP := Lib.hid (And.intro hsv hp)
  have HLE := Lib.hid hlen
  clear o1 o2 h
  cases hm : m k with
  | some a =>
    have hf : found m es.length k = (a, true) := by unfold found; rw [hm]
    rw [hf] at KF
    obtain ⟨s1, s2, s3, s4, s5⟩ := set_there (e := (k, by0)) HH.out.ord o3 hm
    obtain ⟨t, ht⟩ : ∃ t, goal es (k, by0) a = t := ⟨_, rfl⟩
    rw [ht] at s2 s3 s4 s5
    obtain ⟨gb, rfl⟩ := hp (by omega)
    have HSV := Lib.hid hsv
    obtain ⟨hhm, hga⟩ := HH.out.apart
    obtain ⟨hgh, hgm⟩ := hga gb (by rw [hsv]; rfl)
    have HF := Lib.hid (show (∀ x ∈ shift es a t (k, by0), W64 x.1) ∧ Ord (shift es a t (k, by0)) ∧ (shift es a t (k, by0)).Perm ((k, by0) :: sans es k) ∧ TabOf (shift es a t (k, by0)) (mkF (shift es a t (k, by0)) (min a t) (max a t + 1) m) from ⟨fun x hx => by
      rcases List.mem_cons.1 (s4.mem_iff.1 hx) with rfl | h
      · exact hk
      · exact HH.out.wf x (List.mem_filter.1 h).1, s3, s4, s5⟩)
    have HS := Lib.hid (And.intro s1 (And.intro s2 ht))
    have HG3 := Lib.hid (And.intro hhm (And.intro hgh hgm))
    have haz : decide ((a : Int) < 0) = false := decide_eq_false (by omega)
    have haz2 : ¬ (a : Int) < 0 := by omega
    have KG := Lib.hid fun (W : World) (hB : Below w.heap.size w W) => by
      have := goal_g hb cap (some ⟨gb, 0, none⟩) es a (k, by0) W (kc' hB (cell_three hbox).1) (hLies.below hB) (by have := HLE.out; omega) (by omega)
      rw [ht] at this
      exact this
    clear s1 s2 s3 s4 s5 ht hm hf hhm hga hgh hgm hLies o3 hlen hp hsv
    have HBX := Lib.hid hbox
    obtain ⟨n, hn⟩ : ∃ n, es.length = n := ⟨_, rfl⟩
    have HN0 := Lib.hid hn
    rw [hn] at KG
    clear hbox hn
    go_enter Try.func17, Try.ntmps17
    go_wp2_with fail
    refine KF.mono ?_
    rintro r1 w1 ⟨rfl, hb1⟩
    have hbox1 := (hb1.block hb HH.out.lt.1).trans HBX.out
    rw [HN0.out] at hbox1
    obtain ⟨c0, c1, c2, _⟩ := cell_three hbox1
    have hbE := bA' (Below.refl w1.heap.size w1) (Nat.le_refl _) (.cells #[.int .i64 k, .int .i64 by0] 33)
    have e1 : (w1.alloc (.cells #[.int .i64 k, .int .i64 by0] 33)).cell? ⟨w1.heap.size, 0, none⟩ = some (.int .i64 k) := by go_simp
    have e2 : (w1.alloc (.cells #[.int .i64 k, .int .i64 by0] 33)).cell? ⟨w1.heap.size, 1, none⟩ = some (.int .i64 by0) := by go_simp
    have HE := Lib.hid (And.intro hbE (And.intro hbox1 (And.intro e1 e2)))
    have d1 := kc' hbE c1
    have d0 := kc' hbE c0
    have g1 := cg d1
    have g2 := cg e1
    have g3 := cg e2
    have HB1 := Lib.hid hb1
    have KG1 := Lib.hid fun (nq : Nat) (osq : Array Obj) => KG.out (grow ((w1.alloc (.cells #[.int .i64 k, .int .i64 by0] 33)).drewN nq) osq) (bT2 (bT2 hb1 hbE) (below_grown_sl _ _ _ _ (Nat.le_refl _)))
    clear hbE c0 c1 c2 d0 d1 e1 e2 hbox1 hb1 KF KG
    go_wp2_with fail
    go_quiet_grown (first | (go_at_fn 32; exact Calls.grown_of (KG1.out _ _)))
    clear g1 g2 g3 KG1
    have hb2 : Below w1.heap.size w1 (grow ((w1.alloc (.cells #[.int .i64 k, .int .i64 by0] 33)).drewN nq) osq) := bT2 HE.out.1 (below_grown_sl _ _ _ _ (Nat.le_refl _))
    have he12 := And.intro (cg HE.out.2.2.1 nq osq) (cg HE.out.2.2.2 nq osq)
    generalize grow ((w1.alloc (.cells #[.int .i64 k, .int .i64 by0] 33)).drewN nq) osq = w3 at *
    have hb3 := bT2 HB1.out hb2
    have h3 := HH.out.below hb3
    obtain ⟨X, hX⟩ : ∃ X, es = X := ⟨_, rfl⟩
    obtain ⟨cap3, hcap⟩ : ∃ cap3, cap = cap3 := ⟨_, rfl⟩
    have HR3 := Lib.hid (show RowIs It.cells 2 33 gb X.length cap3 w3 X ∧ w3.heap[hb]? = some (.cells #[.func (.func 10) #[] #[], .slice (some ⟨gb, 0, none⟩) X.length cap3, .map (some mb)] 63 (0, 0)) ∧ (w3.cell? ⟨w1.heap.size, 0, none⟩ = some (.int .i64 k) ∧ w3.cell? ⟨w1.heap.size, 1, none⟩ = some (.int .i64 by0)) ∧ w3.ownsMap (H := Unit) Try.prog 3 (plainElem Try.prog 3) mb es.length D from by
      subst hX hcap
      refine ⟨⟨rfl, by have := h3.row; rwa [HSV.out] at this⟩, by have := h3.box; rwa [HSV.out] at this, he12, ?_⟩
      obtain ⟨ent, clock, k1, k2⟩ := HO.out.1
      exact ⟨ent, clock, (hb3.block mb HH.out.lt.2.1).trans k1, k2⟩)
    have HL3 := Lib.hid (show a < X.length ∧ t < X.length ∧ X.length ≤ 1000000 ∧ es.length ≤ 1000000 from by subst hX; have := HLE.out; exact ⟨HS.out.1, HS.out.2.1, by omega, by omega⟩)
    have HF : Hid ((∀ x ∈ shift X a t (k, by0), W64 x.1) ∧ Ord (shift X a t (k, by0)) ∧ (shift X a t (k, by0)).Perm ((k, by0) :: sans es k) ∧ TabOf (shift X a t (k, by0)) (mkF (shift X a t (k, by0)) (min a t) (max a t + 1) m)) := Lib.hid (by subst hX; exact HF.out)
    have HV := Lib.hid (show ((Value.slice (some ⟨gb, 0, none⟩) X.length cap3).ownBlock = sv.ownBlock ∨ ∀ g, (Value.slice (some ⟨gb, 0, none⟩) X.length cap3).ownBlock = some g → w.heap.size ≤ g) ∧ TouchH hb mb sv.ownBlock w w3 from ⟨.inl (by rw [HSV.out]; rfl), .below hb3⟩)
    have HV2 := Lib.hid (show some gb = sv.ownBlock ∨ ∀ g, some gb = some g → w.heap.size ≤ g from .inl (by rw [HSV.out]; rfl))
    clear hb2 he12 hb3 h3 hX hcap
    have KS := shift_c gb cap3 a t X (k, by0) w3.drew ((HR3.out.1).same cT_len rfl) (by have := HL3.out; omega) (by have := HL3.out; omega) (by have := HL3.out; omega)
    obtain ⟨N, hN⟩ : ∃ N, X.length = N := ⟨_, rfl⟩
    rw [hN] at KS
    obtain ⟨c0, c1, c2, _⟩ := cell_three HR3.out.2.1
    obtain ⟨e1, e2⟩ := HR3.out.2.2.1
    rw [hN] at c1
    have HN := Lib.hid hN
    clear hN
    go_wp2_with fail
    go_region_with (first | (go_at_call 33; refine KS.mono ?_; rintro r4 w4 ⟨rfl, q1, q2⟩))
    all_goals
      obtain ⟨hhm, hgh, hgm⟩ := HG3.out
      have hbox4 := (q2.block hb (Array.getElem?_eq_some_iff.1 HR3.out.2.1).1 (Ne.symm hgh) (by simp)).trans HR3.out.2.1
      have hown4 : w4.ownsMap (H := Unit) Try.prog 3 (plainElem Try.prog 3) mb es.length D := by
        obtain ⟨ent, clock, k1, k2⟩ := HR3.out.2.2.2
        exact ⟨ent, clock, (q2.block mb (Array.getElem?_eq_some_iff.1 k1).1 (Ne.symm hgm) (by simp)).trans k1, k2⟩
      have hYl : (shift X a t (k, by0)).length = X.length := shift_len _ _ _ _
      have q1' : RowIs It.cells 2 33 gb (shift X a t (k, by0)).length cap3 w4 (shift X a t (k, by0)) := by rw [hYl, HN.out]; exact q1
      have KM := mark_c hb gb mb cap3 a t es.length (.func (.func 10) #[] #[]) (shift X a t (k, by0)) D m w4 (by rw [hbox4, hYl]) q1' (fun i hi => HF.out.1 _ (mem_g.2 ⟨i, hi, rfl⟩)) hown4 HI.out (by have := HL3.out; omega) (by have := HL3.out; omega) (by have := HL3.out; omega) (by have := HL3.out; omega)
      have HQ4 := Lib.hid (And.intro q1' (And.intro hbox4 q2))
      clear hhm hgh hgm q1 q1' q2 hown4 hYl hbox4 KS c0 c1 c2 e1 e2
      go_wp2_with fail
      refine KM.mono ?_
      rintro r5 w5 ⟨rfl, ⟨n5, D5, o1, o2⟩, q3⟩
      have HQ5 := Lib.hid (And.intro o1 (And.intro o2 q3))
      clear o1 o2 q3 KM
      go_wp2
      go_end0
      obtain ⟨o1, o2, q3⟩ := HQ5.out
      obtain ⟨q1', hbox4, q2⟩ := HQ4.out
      obtain ⟨hhm, hgh, hgm⟩ := HG3.out
      obtain ⟨f1, f2, f3, f4⟩ := HF.out
      have hq := (TouchH.of (hb := hb) (mb := mb) (row := some gb) q2 (.inr rfl)).trans (.grown q3) (.inl rfl)
      have hq2 : TouchH hb mb (some gb) w3 w5 := ⟨hq.os, hq.tape, hq.output, hq.size, hq.block⟩
      refine ⟨rfl, .slice (some ⟨gb, 0, none⟩) X.length cap3, shift X a t (k, by0), ⟨grown_keep q3 hbox4 hhm, ?_, ⟨_, _, own_tight o1 o2 f4, o2, f4⟩, f2, f1⟩, f3, HV.out.1, HV.out.2.trans hq2 HV2.out⟩
      obtain ⟨cur, k1, _⟩ := q1'.whole
      have := (q1'.same cT_len ((grown_keep q3 k1 hgm).trans k1.symm)).row
      rw [shift_len] at this ⊢
      exact this
  | none =>
    have hf : found m es.length k = (es.length, false) := by unfold found; rw [hm]
    rw [hf] at KF
    obtain ⟨s2, s3, s4, s5⟩ := set_new (e := (k, by0)) HH.out.ord o3 hm
    obtain ⟨t, ht⟩ : ∃ t, goal es (k, by0) es.length = t := ⟨_, rfl⟩
    rw [ht] at s2 s3 s4 s5
    have HSV := Lib.hid hsv
    obtain ⟨hhm, hga⟩ := HH.out.apart
    have HGA := Lib.hid hga
    have HHM := Lib.hid hhm
    obtain ⟨X, hX⟩ : ∃ X, es ++ [(k, by0)] = X := ⟨_, rfl⟩
    obtain ⟨a, ha⟩ : ∃ a, es.length = a := ⟨_, rfl⟩
    have hXl : X.length = a + 1 := by rw [← hX, List.length_append, ha]; rfl
    rw [hX, ha] at s3 s4 s5
    have HF := Lib.hid (show (∀ x ∈ shift X a t (k, by0), W64 x.1) ∧ Ord (shift X a t (k, by0)) ∧ (shift X a t (k, by0)).Perm ((k, by0) :: sans es k) ∧ TabOf (shift X a t (k, by0)) (mkF (shift X a t (k, by0)) (min a t) (max a t + 1) m) from ⟨fun x hx => by
      rcases List.mem_cons.1 (s4.mem_iff.1 hx) with rfl | h
      · exact hk
      · exact HH.out.wf x (List.mem_filter.1 h).1, s3, s4, s5⟩)
    have HS := Lib.hid (And.intro ha (And.intro hXl (And.intro s2 hX)))
    have haz : decide ((a : Int) < 0) = false := decide_eq_false (by omega)
    have haz2 : ¬ (a : Int) < 0 := by omega
    have KG := Lib.hid fun (W : World) (hB : Below w.heap.size w W) => by
      have := goal_g hb cap p es es.length (k, by0) W (kc' hB (cell_three hbox).1) (hLies.below hB) (by have := HLE.out; omega) (Nat.le_refl _)
      rw [ht, ha] at this
      exact this
    rw [ha] at KF
    clear s2 s3 s4 s5 ht hm hf hhm hga hLies o3 hlen hp hsv hX hXl
    have HBX := Lib.hid hbox
    clear hbox ha
    go_enter Try.func17, Try.ntmps17
    go_wp2_with fail
    refine KF.mono ?_
    rintro r1 w1 ⟨rfl, hb1⟩
    have hbox1 := (hb1.block hb HH.out.lt.1).trans HBX.out
    rw [HS.out.1] at hbox1
    obtain ⟨c0, c1, c2, _⟩ := cell_three hbox1
    have hbE := bA' (Below.refl w1.heap.size w1) (Nat.le_refl _) (.cells #[.int .i64 k, .int .i64 by0] 33)
    have e1 : (w1.alloc (.cells #[.int .i64 k, .int .i64 by0] 33)).cell? ⟨w1.heap.size, 0, none⟩ = some (.int .i64 k) := by go_simp
    have e2 : (w1.alloc (.cells #[.int .i64 k, .int .i64 by0] 33)).cell? ⟨w1.heap.size, 1, none⟩ = some (.int .i64 by0) := by go_simp
    have HE := Lib.hid (And.intro hbE (And.intro hbox1 (And.intro e1 e2)))
    have d1 := kc' hbE c1
    have d0 := kc' hbE c0
    have g1 := cg d1
    have g2 := cg e1
    have g3 := cg e2
    have HB1 := Lib.hid hb1
    have KG1 := Lib.hid fun (nq : Nat) (osq : Array Obj) => KG.out (grow ((w1.alloc (.cells #[.int .i64 k, .int .i64 by0] 33)).drewN nq) osq) (bT2 (bT2 hb1 hbE) (below_grown_sl _ _ _ _ (Nat.le_refl _)))
    clear hbE c0 c1 c2 d0 d1 e1 e2 hbox1 hb1 KF KG
    go_wp2_with fail
    go_quiet_grown (first | (go_at_fn 32; exact Calls.grown_of (KG1.out _ _)))
    clear g1 g2 g3 KG1
    have hb2 : Below w1.heap.size w1 (grow ((w1.alloc (.cells #[.int .i64 k, .int .i64 by0] 33)).drewN nq) osq) := bT2 HE.out.1 (below_grown_sl _ _ _ _ (Nat.le_refl _))
    have he12 := And.intro (cg HE.out.2.2.1 nq osq) (cg HE.out.2.2.2 nq osq)
    generalize grow ((w1.alloc (.cells #[.int .i64 k, .int .i64 by0] 33)).drewN nq) osq = w2 at *
    have hb3 := bT2 HB1.out hb2
    have h2 := HH.out.below hb3
    have hbz := h2.box
    rw [HSV.out, HS.out.1] at hbz
    obtain ⟨i0, hi0, hz0, hz1, hz2⟩ := info_parts infoIt
    obtain ⟨w6, hw6⟩ : ∃ w6, w2.drew.alloc (.cells #[.int .i64 k, .int .i64 by0] 33) = w6 := ⟨_, rfl⟩
    have hb6 : Below w2.heap.size w2 w6 := hw6 ▸ ((Below.refl w2.heap.size w2).drew.alloc (Nat.le_refl _) _)
    have h6 := h2.below hb6
    have hrow6 := h6.row
    rw [HSV.out, HS.out.1] at hrow6
    obtain ⟨g1, cap3, W5, hrun, hrow5, hgr5, hgl5, hlt5⟩ := run_append_lies (P := Try.prog) (w := w6) 50 50 0 33 i0 (.agg #[.int .i64 0, .int .i64 0]) 2 16 Try.underlying50 hi0 hz0 hz1 hz2 rfl (by decide) (.slice p a cap) a (es.flatMap It.cells) hrow6 ⟨w2.heap.size, 0, none⟩ 1 1 (It.cells (k, by0)) rfl (fun j u hu => by
      have hadd : (⟨w2.heap.size, 0, none⟩ : Addr).add j = ⟨w2.heap.size, j, none⟩ := by unfold Addr.add; split <;> simp_all
      have hz := cell_of_row (w2.drew.alloc (.cells #[.int .i64 k, .int .i64 by0] 33)) w2.heap.size j #[.int .i64 k, .int .i64 by0] 33 (0, 0) (World.alloc_heap_new w2.drew _)
      rw [hadd, ← hw6, hz]
      simpa [It.cells] using hu) (cT_one _) (by decide) (by have := HLE.out; have := HS.out.1; unfold maxLen; omega) (by have := HLE.out; have := HS.out.1; omega) (Nat.zero_le _) _ rfl
    have hlt2 := h6.lt
    have hap := h6.apart
    have hown5 : (Value.slice p a cap).ownBlock = sv.ownBlock := by rw [HSV.out, HS.out.1]
    have hgb : (sv.ownBlock = some g1 ∨ g1 = w6.heap.size) := by rw [← hown5]; exact hgl5
    have hgh : g1 ≠ hb := by
      rcases hgb with e | e
      · exact (hap.2 g1 e).1
      · have := hlt2.1; omega
    have hgm : g1 ≠ mb := by
      rcases hgb with e | e
      · exact (hap.2 g1 e).2
      · have := hlt2.2.1; omega
    have hbn : some hb ≠ (Value.slice p a cap).ownBlock := by rw [hown5]; exact fun e => (hap.2 hb e.symm).1 rfl
    have hmn : some mb ≠ (Value.slice p a cap).ownBlock := by rw [hown5]; exact fun e => (hap.2 mb e.symm).2 rfl
    have hbox5 := (hgr5.block hb hlt2.1 hbn).trans h6.box
    rw [HSV.out, HS.out.1] at hbox5
    have hbx1 : w1.heap.size < w6.heap.size ∧ some w1.heap.size ≠ (Value.slice p a cap).ownBlock := by
      have hs2 : w1.heap.size < w2.heap.size := World.block_lt_of_cell? _ _ he12.1
      refine ⟨Nat.lt_of_lt_of_le hs2 hb6.size, ?_⟩
      rw [hown5]
      intro e
      have := HH.out.lt.2.2 _ e.symm
      have := HB1.out.size
      omega
    have he5 : W5.cell? ⟨w1.heap.size, 0, none⟩ = some (.int .i64 k) ∧ W5.cell? ⟨w1.heap.size, 1, none⟩ = some (.int .i64 by0) :=
      ⟨(World.cell?_of_block (hgr5.block _ hbx1.1 hbx1.2)).trans (kc' hb6 he12.1), (World.cell?_of_block (hgr5.block _ hbx1.1 hbx1.2)).trans (kc' hb6 he12.2)⟩
    have hnb : w1.heap.size ≠ hb := by have := HH.out.lt.1; have := HB1.out.size; omega
    obtain ⟨gb, hgbe⟩ : ∃ gb, g1 = gb := ⟨_, rfl⟩
    rw [hgbe] at hrun hrow5 hgh hgm hgb hlt5
    have HR3 := Lib.hid (show RowIs It.cells 2 33 gb X.length cap3 (W5.setCell ⟨hb, 1, none⟩ (.slice (some ⟨gb, 0, none⟩) (a + 1) cap3)) X ∧ (W5.setCell ⟨hb, 1, none⟩ (.slice (some ⟨gb, 0, none⟩) (a + 1) cap3)).heap[hb]? = some (.cells #[.func (.func 10) #[] #[], .slice (some ⟨gb, 0, none⟩) X.length cap3, .map (some mb)] 63 (0, 0)) ∧ ((W5.setCell ⟨hb, 1, none⟩ (.slice (some ⟨gb, 0, none⟩) (a + 1) cap3)).cell? ⟨w1.heap.size, 0, none⟩ = some (.int .i64 k) ∧ (W5.setCell ⟨hb, 1, none⟩ (.slice (some ⟨gb, 0, none⟩) (a + 1) cap3)).cell? ⟨w1.heap.size, 1, none⟩ = some (.int .i64 by0)) ∧ (W5.setCell ⟨hb, 1, none⟩ (.slice (some ⟨gb, 0, none⟩) (a + 1) cap3)).ownsMap (H := Unit) Try.prog 3 (plainElem Try.prog 3) mb es.length D from by
      obtain ⟨z1, z2, z3, z4⟩ := HS.out
      refine ⟨RowIs.same ⟨rfl, ?_⟩ cT_len (heap_setCell_other _ ⟨hb, 1, none⟩ gb _ hgh), ?_, ⟨?_, ?_⟩, ?_⟩
      · rw [z2, ← z4, List.flatMap_append]
        simpa using hrow5
      · have := heap_setCell_same W5 hb 1 _ _ (.slice (some ⟨gb, 0, none⟩) (a + 1) cap3) hbox5
        rw [z2]
        exact this
      · rw [World.cell?_of_block (heap_setCell_other W5 ⟨hb, 1, none⟩ w1.heap.size _ hnb)]; exact he5.1
      · rw [World.cell?_of_block (heap_setCell_other W5 ⟨hb, 1, none⟩ w1.heap.size _ hnb)]; exact he5.2
      · obtain ⟨ent, clock, k1, k2⟩ := HO.out.1
        exact ⟨ent, clock, (heap_setCell_other W5 ⟨hb, 1, none⟩ mb _ (Ne.symm HHM.out)).trans ((hgr5.block mb hlt2.2.1 hmn).trans ((hb6.block mb h2.lt.2.1).trans ((hb3.block mb HH.out.lt.2.1).trans k1))), k2⟩)
    have HL3 := Lib.hid (show a < X.length ∧ t < X.length ∧ X.length ≤ 1000000 ∧ es.length ≤ 1000000 from by obtain ⟨z1, z2, z3, z4⟩ := HS.out; have := HLE.out; exact ⟨by omega, by omega, by omega, by omega⟩)
    have HG3 := Lib.hid (And.intro HHM.out (And.intro hgh hgm))
    have hlow : ∀ g, some gb = some g → sv.ownBlock ≠ some g → w.heap.size ≤ g := fun g e hne => by
      rcases hgb with e2 | e2
      · exact absurd (e2.trans e) hne
      · have : gb = g := by simpa using e
        have := hb3.size
        have := hb6.size
        omega
    have HV := Lib.hid (show ((Value.slice (some ⟨gb, 0, none⟩) X.length cap3).ownBlock = sv.ownBlock ∨ ∀ g, (Value.slice (some ⟨gb, 0, none⟩) X.length cap3).ownBlock = some g → w.heap.size ≤ g) ∧ TouchH hb mb sv.ownBlock w (W5.setCell ⟨hb, 1, none⟩ (.slice (some ⟨gb, 0, none⟩) (a + 1) cap3)) from by
      refine ⟨?_, TouchH.cell ?_ 1 _⟩
      · rcases hgb with e | e
        · exact .inl e.symm
        · right
          intro g e2
          have : gb = g := by simpa [Value.ownBlock] using e2
          have := hb3.size
          have := hb6.size
          omega
      · have hbw := bT2 hb3 hb6
        rw [← hown5]
        exact ⟨hgr5.os.trans hbw.os, hgr5.tape.trans hbw.tape, hgr5.output.trans hbw.output, Nat.le_trans hbw.size hgr5.size, fun i hi _ _ h3 => (hgr5.block i (Nat.lt_of_lt_of_le hi hbw.size) h3).trans (hbw.block i hi)⟩)
    have HV2 := Lib.hid (show some gb = sv.ownBlock ∨ ∀ g, some gb = some g → w.heap.size ≤ g from by
      rcases hgb with e | e
      · exact .inl e.symm
      · right
        intro g e2
        have : gb = g := by simpa using e2
        have := hb3.size
        have := hb6.size
        omega)
    have HRUN := Lib.hid (show (Builtin.append_ #[50, 50] 50 #[.slice p a cap, .slice (some ⟨w2.heap.size, 0, none⟩) 1 1]).run Try.prog (w2.alloc (.cells #[.int .i64 k, .int .i64 by0] 33)).drew = .ok (.slice (some ⟨gb, 0, none⟩) (a + 1) cap3) W5 from by rw [← hw6] at hrun; exact hrun)
    obtain ⟨c0, c1, c2, _⟩ := cell_three hbz
    obtain ⟨e1, e2⟩ := he12
    obtain ⟨d0, d1, d2, df⟩ := cell_three hbox5
    have c1b : (w2.alloc (.cells #[.int .i64 k, .int .i64 by0] 33)).cell? ⟨hb, 1, none⟩ = some (.slice p a cap) := kc' (bA' (Below.refl _ _) (Nat.le_refl _) _) c1
    clear hb2 hb3 h2 hbz hi0 hz0 hz1 hz2 hw6 hb6 h6 hrow6 hrun hrow5 hgr5 hgl5 hlt5 hlt2 hap hown5 hgb hgh hgm hbn hmn hbox5 hbx1 he5 hnb hgbe hlow
    go_wp2_with fail
    go_region_law (first | (refine step_append_run rfl (.tmp 35) (.tmp 37) 50 rfl (v1 := .slice p a cap) (v2 := .slice (some ⟨w2.heap.size, 0, none⟩) 1 1) (by simp [Act.eval]) (by simp [Act.eval]) HRUN.out ?_))
    all_goals clear c0 c1 c1b c2 e1 e2 d0 d1 d2 df HRUN
    all_goals generalize W5.setCell ⟨hb, 1, none⟩ (.slice (some ⟨gb, 0, none⟩) (a + 1) cap3) = w3 at *
    all_goals
      have KS := shift_c gb cap3 a t X (k, by0) w3.drew ((HR3.out.1).same cT_len rfl) (by have := HL3.out; omega) (by have := HL3.out; omega) (by have := HL3.out; omega)
      obtain ⟨N, hN⟩ : ∃ N, X.length = N := ⟨_, rfl⟩
      rw [hN] at KS
      obtain ⟨c0, c1, c2, _⟩ := cell_three HR3.out.2.1
      obtain ⟨e1, e2⟩ := HR3.out.2.2.1
      rw [hN] at c1
      have HN := Lib.hid hN
      clear hN
      go_wp2_with fail
      go_region_with (first | (go_at_call 33; refine KS.mono ?_; rintro r4 w4 ⟨rfl, q1, q2⟩))
      all_goals
        obtain ⟨hhm, hgh, hgm⟩ := HG3.out
        have hbox4 := (q2.block hb (Array.getElem?_eq_some_iff.1 HR3.out.2.1).1 (Ne.symm hgh) (by simp)).trans HR3.out.2.1
        have hown4 : w4.ownsMap (H := Unit) Try.prog 3 (plainElem Try.prog 3) mb es.length D := by
          obtain ⟨ent, clock, k1, k2⟩ := HR3.out.2.2.2
          exact ⟨ent, clock, (q2.block mb (Array.getElem?_eq_some_iff.1 k1).1 (Ne.symm hgm) (by simp)).trans k1, k2⟩
        have hYl : (shift X a t (k, by0)).length = X.length := shift_len _ _ _ _
        have q1' : RowIs It.cells 2 33 gb (shift X a t (k, by0)).length cap3 w4 (shift X a t (k, by0)) := by rw [hYl, HN.out]; exact q1
        have KM := mark_c hb gb mb cap3 a t es.length (.func (.func 10) #[] #[]) (shift X a t (k, by0)) D m w4 (by rw [hbox4, hYl]) q1' (fun i hi => HF.out.1 _ (mem_g.2 ⟨i, hi, rfl⟩)) hown4 HI.out (by have := HL3.out; omega) (by have := HL3.out; omega) (by have := HL3.out; omega) (by have := HL3.out; omega)
        have HQ4 := Lib.hid (And.intro q1' (And.intro hbox4 q2))
        clear hhm hgh hgm q1 q1' q2 hown4 hYl hbox4 KS c0 c1 c2 e1 e2
        go_wp2_with fail
        refine KM.mono ?_
        rintro r5 w5 ⟨rfl, ⟨n5, D5, o1, o2⟩, q3⟩
        have HQ5 := Lib.hid (And.intro o1 (And.intro o2 q3))
        clear o1 o2 q3 KM
        go_wp2
        go_end0
        obtain ⟨o1, o2, q3⟩ := HQ5.out
        obtain ⟨q1', hbox4, q2⟩ := HQ4.out
        obtain ⟨hhm, hgh, hgm⟩ := HG3.out
        obtain ⟨f1, f2, f3, f4⟩ := HF.out
        have hq := (TouchH.of (hb := hb) (mb := mb) (row := some gb) q2 (.inr rfl)).trans (.grown q3) (.inl rfl)
        have hq2 : TouchH hb mb (some gb) w3 w5 := ⟨hq.os, hq.tape, hq.output, hq.size, hq.block⟩
        refine ⟨rfl, .slice (some ⟨gb, 0, none⟩) X.length cap3, shift X a t (k, by0), ⟨grown_keep q3 hbox4 hhm, ?_, ⟨_, _, own_tight o1 o2 f4, o2, f4⟩, f2, f1⟩, f3, HV.out.1, HV.out.2.trans hq2 HV2.out⟩
        obtain ⟨cur, k1, _⟩ := q1'.whole
        have := (q1'.same cT_len ((grown_keep q3 k1 hgm).trans k1.symm)).row
        rw [shift_len] at this ⊢
        exact this
end Go.Proofs.Ytngeinmpnjfhfaa
