/-
  value.parts over this seat's translation: the iterator that hands out a value and what is in it. Conditions: those that each theorem states.
-/
import Derived.Test.YtbgpipdbnjoeeaaDoorSeqA
namespace Go.Proofs.YtbgpipdbnjoeeaaDoor
open Go.RowKit Go.Shelf Go.ChangeShapes Go.WideShapes Go.ChangeAt Go.Deep
attribute [local go_sem] Oper.semAt_some


/-- The marks that an activation bears of its range statements. -/
def marksL (Ds : List Nat) : List Deferred := Ds.map fun D => { target := .collected D, args := #[] }
def Marks (B : Nat) (Ds : List Nat) (W : World) : Prop := Ds.Pairwise (· ≠ ·) ∧ ∀ D ∈ Ds, B ≤ D ∧ W.heap[D]? = some (.deferred (some []))
theorem Marks.from {B : Nat} {Ds : List Nat} {W W' : World} (h : Marks B Ds W) (hk : KeepsFrom B W W') : Marks B Ds W' := ⟨h.1, fun D hD => ⟨(h.2 D hD).1, hk.same D _ (h.2 D hD).1 (h.2 D hD).2 rfl⟩⟩
theorem marks_leave {B : Nat} {fn : Func} (hres : fn.results = #[]) {tmps : Array Value} {T : World → Prop} (hT : OwnFrom B (fun (_ : Unit) W => T W)) {R : Ending → World → Prop} (hR : ∀ W, T W → R (.returned (.tuple #[])) W) :
    ∀ (Ds : List Nat) (W : World), Marks B Ds W → T W → LeavesInM Fence.wide 0 Tryd.prog fn tmps R (marksL Ds) .returning W
  | [], W, _, ht => ⟨_, results_none hres _ _ _, hR W ht⟩
  | D :: Ds, W, hm, ht => by
    obtain ⟨hb, hd⟩ := hm.2 D (by simp)
    have hp := List.pairwise_cons.1 hm.1
    refine ⟨by simp, .inl ⟨D, _, rfl, run_takeDeferred hd, marks_leave hres hT hR Ds _ ⟨hp.2, fun D' h' => ⟨(hm.2 D' (by simp [h'])).1, ?_⟩⟩ (hT.putObj (s := ()) _ ht hb hd rfl)⟩⟩
    rw [World.putObj_heap_other (fun e => hp.1 D' h' e.symm)]
    exact (hm.2 D' (by simp [h'])).2

theorem parts_c (t : VT) (sl : Value) (w : World) (hin : VT.In w t sl) : Calls Tryd.prog 22 #[t.val sl] w fun e w' =>
    e = .returned (.func (.func 32) #[] #[.pointer (some ⟨w.heap.size, 0, none⟩)]) ∧ w' = w.alloc (.cells #[.int .i64 t.k, .int .i64 t.n, .string t.s, sl] 24) := by
  obtain ⟨p, cap, rfl⟩ := hin.slice
  unfold VT.val
  go_enter Tryd.func22, Tryd.ntmps22
  go_wp2
  go_ret
  exact ⟨rfl, rfl⟩
theorem own_mono {β : Type} {B B' : Nat} {I : β → World → Prop} (h : OwnFrom B I) (hb : B ≤ B') : OwnFrom B' I := fun s A C row hs hg hr => h s A C row hs hg fun r e => ⟨by have := (hr r e).1; omega, (hr r e).2⟩
theorem own_below {β : Type} {B : Nat} {I : β → World → Prop} (h : OwnFrom B I) {s : β} {W W' : World} (hs : I s W) (hb : Below W.heap.size W W') : I s W' := h s W W' none hs (grown_of_below hb) fun r e => by cases e

theorem partsTo_prefix (f : Nat → List VT) {k : Nat} : ∀ {n : Nat}, k ≤ n → partsTo f k <+: partsTo f n
  | 0, h => by
    have : k = 0 := by omega
    subst this
    exact List.prefix_refl _
  | n + 1, h => by
    by_cases e : k = n + 1
    · subst e; exact List.prefix_refl _
    · exact List.IsPrefix.trans (partsTo_prefix f (n := n) (by omega)) (List.prefix_append _ _)
theorem cells_grown {A B : World} {row : Option Nat} {B0 b : Nat} {cs : Array Value} {ty : TypeId} {fr : Nat × Nat} (h : A.heap[b]? = some (.cells cs ty fr)) (hg : A.grownBy B row) (hr : ∀ r, row = some r → B0 ≤ r ∧ ∃ o : Obj, A.heap[r]? = some o ∧ o.isCells = false) : B.heap[b]? = some (.cells cs ty fr) :=
  (hg.block b (Array.getElem?_eq_some_iff.1 h).1 fun e => by
    obtain ⟨_, u, hu, hc⟩ := hr b e.symm
    rw [h] at hu
    cases hu
    cases hc).trans h
theorem Marks.grown {B B0 : Nat} {Ds : List Nat} {A C : World} {row : Option Nat} (h : Marks B Ds A) (hl : ∀ D ∈ Ds, D < B0) (hg : A.grownBy C row) (hr : ∀ r, row = some r → B0 ≤ r ∧ ∃ o : Obj, A.heap[r]? = some o ∧ o.isCells = false) : Marks B Ds C :=
  ⟨h.1, fun D hD => ⟨(h.2 D hD).1, (hg.block D (Array.getElem?_eq_some_iff.1 (h.2 D hD).2).1 fun e => by
    have h1 := (hr D e.symm).1
    have h2 := hl D hD
    omega).trans (h.2 D hD).2⟩⟩
theorem marks_cons {B D : Nat} {Ds : List Nat} {A : World} (h : Marks B Ds A) (hb : B ≤ D) (hd : A.heap[D]? = some (.deferred (some []))) (hne : ∀ D' ∈ Ds, D' < D) : Marks B (D :: Ds) A := by
  refine ⟨List.pairwise_cons.2 ⟨fun D' h' => ?_, h.1⟩, fun D' h' => ?_⟩
  · have := hne D' h'
    omega
  · rw [List.mem_cons] at h'
    rcases h' with rfl | h'
    · exact ⟨hb, hd⟩
    · exact h.2 D' h'
theorem parts_pre {t : VT} {f : Nat → List VT} {k n : Nat} (hk : k < n) {q : List VT} (hq : q <+: f k) : (t :: partsTo f k) ++ q <+: t :: partsTo f n := by
  obtain ⟨r, hr⟩ := hq
  obtain ⟨s, hs⟩ := partsTo_prefix f (k := k + 1) (n := n) (by omega)
  refine ⟨r ++ s, ?_⟩
  rw [← hs, partsTo, ← hr]
  simp
/-- The temporaries of a round of its range statement. -/
def actR (l Bv B B4 B18 : Nat) (t : VT) (p : Option Addr) (cap k o15 b15 : Nat) (s : VT) (p' : Option Addr) (cap' : Nat) (u24 : Value) (x : XV) (bx : Nat) : Act :=
  { tmps := #[.func (.yield l) #[] #[], .pointer (some ⟨Bv, 0, none⟩), .pointer (some ⟨B, 0, none⟩), undef, .pointer (some ⟨B4, 0, none⟩), .pointer (some ⟨bx, 0, none⟩), .func (.yield l) #[] #[], .agg #[.int .i64 t.k, .int .i64 t.n, .string t.s, .slice p t.len cap], .bool true, .bool false,
      .pointer (some ⟨Bv, 3, none⟩), .slice p t.len cap, .int .i64 t.len, .int .i64 k, .bool true, .pointer (some ⟨b15, o15, none⟩), .agg #[.int .i64 s.k, .int .i64 s.n, .string s.s, .slice p' s.len cap'], .agg #[.int .i64 s.k, .int .i64 s.n, .string s.s, .slice p' s.len cap'],
      .func (.func 32) #[] #[.pointer (some ⟨B18, 0, none⟩)], .agg #[.int .i64 x.1.k, .int .i64 x.1.n, .string x.1.s, x.2], undef, undef, undef, undef, u24], defers := [] }
/-- The activation of parts$1 between two of its range statements. -/
def actP (l Bv B : Nat) (t : VT) (p : Option Addr) (cap k : Nat) (u4 u14 u15 u16 u17 u18 u24 : Value) (Ds : List Nat) : Act :=
  { tmps := #[.func (.yield l) #[] #[], .pointer (some ⟨Bv, 0, none⟩), .pointer (some ⟨B, 0, none⟩), undef, u4, undef, .func (.yield l) #[] #[], .agg #[.int .i64 t.k, .int .i64 t.n, .string t.s, .slice p t.len cap], .bool true, .bool false,
      .pointer (some ⟨Bv, 3, none⟩), .slice p t.len cap, .int .i64 t.len, .int .i64 k, u14, u15, u16, u17, u18, undef, undef, undef, undef, undef, u24], defers := marksL Ds }

set_option maxRecDepth 100000 in
set_option maxHeartbeats 4000000 in
theorem parts1_step (t : VT) (h4 : t.len ≤ 4) (f : Nat → List VT) (safe : World → Nat → Obj → Prop)
    (ih : ∀ i, i < t.len → ∀ (sl : Value) (Bv : Nat) (w : World), Safe safe w.heap.size → w.heap[Bv]? = some (.cells #[.int .i64 (t.kid i).k, .int .i64 (t.kid i).n, .string (t.kid i).s, sl] 24 (0, 0)) →
      safe w Bv (.cells #[.int .i64 (t.kid i).k, .int .i64 (t.kid i).n, .string (t.kid i).s, sl] 24 (0, 0)) → VT.InS safe w (t.kid i) sl → Seq 32 #[.pointer (some ⟨Bv, 0, none⟩)] (f i) safe w)
    (sl : Value) (Bv : Nat) (w : World) (hsafe : Safe safe w.heap.size) (hbox : w.heap[Bv]? = some (.cells #[.int .i64 t.k, .int .i64 t.n, .string t.s, sl] 24 (0, 0)))
    (hbs : safe w Bv (.cells #[.int .i64 t.k, .int .i64 t.n, .string t.s, sl] 24 (0, 0))) (hin : VT.InS safe w t sl) :
    Seq 32 #[.pointer (some ⟨Bv, 0, none⟩)] (t :: partsTo f t.len) safe w := by
  intro l J Jx W hW hJ hJx hY h0
  have hkW : Kept safe w W := Kept.below hsafe (Nat.le_refl _) hW
  obtain ⟨hboxW, hbsW⟩ := hkW.same _ _ hbs hbox
  have hinW := hin.keep hkW
  obtain ⟨p, cap, rfl⟩ := (hin.plain).slice
  have hsz := hW.size
  have c0 : W.cell? ⟨Bv, 0, none⟩ = some (.int .i64 t.k) := by unfold World.cell?; rw [hboxW]; rfl
  have c1 : W.cell? ⟨Bv, 1, none⟩ = some (.int .i64 t.n) := by unfold World.cell?; rw [hboxW]; rfl
  have c2 : W.cell? ⟨Bv, 2, none⟩ = some (.string t.s) := by unfold World.cell?; rw [hboxW]; rfl
  have c3 : W.cell? ⟨Bv, 3, none⟩ = some (.slice p t.len cap) := by unfold World.cell?; rw [hboxW]; rfl
  have hBl : Below W.heap.size W (W.alloc (.cells #[.func (.yield l) #[] #[]] 35)) := bA (Below.refl _ W) _
  replace c0 := kc hBl c0
  replace c1 := kc hBl c1
  replace c2 := kc hBl c2
  replace c3 := kc hBl c3
  have hJ1 := own_below hJ h0 hBl
  have hin1 := hinW.keep (Kept.below hsafe hsz hBl)
  obtain ⟨fn, tm, asg, bd, hy, hR⟩ := hY [] (t, .slice p t.len cap) _ hJ1 hin1 (by simp) (by simp)
  have hnew := hsafe.new W _ W.heap.size _ _ _ hsz hbsW hboxW hBl (Nat.le_refl _) (World.alloc_heap_new W (.cells #[.func (.yield l) #[] #[]] 35)) rfl
  refine callsIn_of_wp_marks Tryd.func32 rfl trivial ?_ rfl
  simp only [Tryd.ntmps32, List.size_toArray, List.length_cons, List.length_nil, Nat.reduceAdd, Nat.reduceSub, Array.replicate_succ, Array.replicate_zero, List.push_toArray, List.append_toArray, List.nil_append, List.cons_append]
  dsimp only [VT.val] at hy
  have HIH := Lib.hid ih
  have HY := Lib.hid hY
  clear ih hY
  gi_wp2
  refine ⟨rfl, hR.mono ?_⟩
  clear hR hy
  rintro e W2 (⟨rfl, hJ2, hk2, hf2⟩ | ⟨rfl, hJx2, hf2⟩)
  · have hk02 := (Kept.below hsafe hsz hBl).trans hk2
    obtain ⟨hbox2, hbs2⟩ := hk02.same _ _ hbsW hboxW
    have hin2 := hinW.keep hk02
    obtain ⟨hyb, hys⟩ := hk2.same _ _ hnew (World.alloc_heap_new W _)
    have d3 : W2.cell? ⟨Bv, 3, none⟩ = some (.slice p t.len cap) := by unfold World.cell?; rw [hbox2]; rfl
    have HIN2 := Lib.hid hin2
    have HJ2 := Lib.hid hJ2
    have HYB := Lib.hid (And.intro hyb hys)
    have HF2 := Lib.hid hf2
    have HK2 := Lib.hid hk2
    clear c0 c1 c2 c3 hin2 hJ2 hyb hys hnew hf2 hk2 hk02 hbox2 hbs2 h0 hin hinW hin1 hJ1
    gi_wp2
    have hW2s : W.heap.size + 1 ≤ W2.heap.size := by have := HK2.out.size; simpa using this
    refine wpIn_loop (fun a' w' => ∃ (k : Nat) (u4 u14 u15 u16 u17 u18 u24 : Value) (Ds : List Nat), a' = actP l Bv W.heap.size t p cap k u4 u14 u15 u16 u17 u18 u24 Ds ∧ k ≤ t.len ∧ Marks W.heap.size Ds w' ∧ Kept safe W2 w' ∧ ∃ pre : List XV, pre.map Prod.fst = t :: partsTo f k ∧ J pre w')
      (fun a' _ => t.len - (intOf (a'.tmps.getD 13 undef)).toNat) ⟨0, undef, undef, undef, undef, undef, undef, undef, [], rfl, Nat.zero_le _, ⟨List.Pairwise.nil, fun D h => by simp at h⟩, Kept.refl _, [(t, .slice p t.len cap)], rfl, HJ2.out⟩ ?_
    clear d3
    rintro a' w' ⟨k, u4, u14, u15, u16, u17, u18, u24, Ds, rfl, hk, hm, hkk, pre, hpre, hj⟩
    have HM := Lib.hid hm
    have HKK := Lib.hid hkk
    have HPRE := Lib.hid hpre
    have HJ3 := Lib.hid hj
    have hDs : ∀ D ∈ Ds, D < w'.heap.size := fun D hD => (Array.getElem?_eq_some_iff.1 (hm.2 D hD).2).1
    have HDS := Lib.hid hDs
    have hws := hkk.size
    clear hm hkk hpre hj hDs
    unfold actP
    by_cases hlt : k < t.len
    · obtain ⟨_, _, _, _, p2, cap2, e2, hlc, hcap, hkids⟩ := (HIN2.out.keep HKK.out).out
      injection e2 with e21 e22 e23
      subst e21 e23
      obtain ⟨b, o, u, rfl, hu, hus, kk⟩ := hkids (by omega)
      obtain ⟨sl', ⟨c0, c1, c2, c3⟩, hkin⟩ := kk k hlt
      obtain ⟨p', cap', rfl⟩ := hkin.plain.slice
      have HKIN := Lib.hid hkin
      clear hkin kk hkids hu hus e22
      obtain ⟨wb, hwb⟩ : ∃ wb, w'.alloc (.cells #[.int .i64 (t.kid k).k, .int .i64 (t.kid k).n, .string (t.kid k).s, .slice p' (t.kid k).len cap'] 24) = wb := ⟨_, rfl⟩
      have hb1 : Below w'.heap.size w' wb := hwb ▸ bA (Below.refl _ w') _
      have hinb := HKIN.out.keep (Kept.below hsafe (by omega) hb1)
      have HP := Lib.hid (parts_c (t.kid k) _ _ hinb.plain)
      have HWB := Lib.hid hwb
      clear hwb
      gi_wp2_with fail
      rw [HWB.out]
      refine ⟨trivial, rfl, (callsIn_wide.2 HP.out).mono ?_⟩
      rintro e w5 ⟨rfl, hw5⟩
      have hb2 : Below wb.heap.size wb w5 := hw5 ▸ bA (Below.refl _ wb) _
      have hbx : w5.heap[wb.heap.size]? = some (.cells #[.int .i64 (t.kid k).k, .int .i64 (t.kid k).n, .string (t.kid k).s, .slice p' (t.kid k).len cap'] 24 (0, 0)) := hw5 ▸ World.alloc_heap_new wb _
      have hb3 := bT hb1 hb2
      have hs5 := hb3.size
      have hsb := hb1.size
      clear hw5
      have hj5 := own_below hJ HJ3.out hb3
      have hm5 := HM.out.from (below_from (B := W.heap.size) hb3)
      have hwit := (HKK.out.trans (Kept.below hsafe (by omega) hb1)).same _ _ HYB.out.2 HYB.out.1
      have hkid := HIH.out k hlt _ wb.heap.size w5 (hsafe.mono (by omega)) hbx (hsafe.new wb _ _ _ _ _ (by omega) hwit.2 hwit.1 hb2 (Nat.le_refl _) hbx rfl) (hinb.keep (Kept.below hsafe (by omega) hb2))
      have HKID := Lib.hid hkid
      have HB3 := Lib.hid hb3
      have HJ5 := Lib.hid hj5
      have HM5 := Lib.hid hm5
      have hplen : pre.length = (partsTo f k).length + 1 := by rw [← List.length_map (f := Prod.fst), HPRE.out]; rfl
      have hpl2 : (partsTo f k).length + (f k).length ≤ (partsTo f t.len).length := by
        have h1 := (partsTo_prefix f (k := k + 1) (n := t.len) (by omega)).length_le
        rw [partsTo, List.length_append] at h1
        exact h1
      have HPL := Lib.hid hplen
      have HPL2 := Lib.hid hpl2
      clear hkid hwit hb3 hj5 hm5 hplen hpl2 hbx hb1 hb2 hinb c0 c1 c2 c3
      gi_wp2
      refine range_law (gf := 32) (lb := #[.pointer (some ⟨wb.heap.size, 0, none⟩)]) (full := f k) (safe := safe) rfl (enters_of Tryd.func32 (by kernel_rfl) rfl) (hsafe.mono (by omega)) HKID.out rfl
        (fun q Wq => J (pre ++ q) Wq ∧ Kept safe w5 Wq ∧ Marks W.heap.size Ds Wq)
        (fun c q Wq => c = .ret ∧ Jx (pre ++ q) Wq ∧ Marks W.heap.size Ds Wq) ?hI ?hIx ⟨by rw [List.append_nil]; exact HJ5.out, Kept.refl _, HM5.out⟩
        (fun x a' Wq => ∃ bx, a' = actR l Bv W.heap.size w'.heap.size wb.heap.size t (some ⟨b, o, none⟩) cap k (o + k * 4) b (t.kid k) p' cap' u24 x bx ∧ Wq.heap[bx]? = some (.cells #[.int .i64 x.1.k, .int .i64 x.1.n, .string x.1.s, x.2] 24 (0, 0))) ?hAx ?assign ?body ?done ?stop
      case hI =>
        rintro s A B row ⟨h1, h2, h3⟩ hgr hr
        exact ⟨own_mono hJ (by omega) _ A B row h1 hgr hr, h2.trans (Kept.grown hsafe (by have := h2.size; omega) hgr fun r e => (hr r e).2), h3.grown (fun D hD => by have := HDS.out D hD; omega) hgr hr⟩
      case hIx =>
        rintro c s A B row ⟨h1, h2, h3⟩ hgr hr
        exact ⟨h1, own_mono hJx (by omega) _ A B row h2 hgr hr, h3.grown (fun D hD => by have := HDS.out D hD; omega) hgr hr⟩
      case hAx =>
        rintro x a' s A B row ⟨bx, e, hb⟩ hgr hr
        exact ⟨bx, e, cells_grown hb hgr hr⟩
      case assign =>
        rintro l2 q x Wq K ⟨hj, hkq, hmq⟩ hx hszq hK
        obtain ⟨tx, sx⟩ := x
        obtain ⟨px, cx, h⟩ := hx.plain.slice
        have h : sx = .slice px tx.len cx := h
        subst h
        have hbq : Below Wq.heap.size Wq (Wq.alloc (.cells #[.int .i64 tx.k, .int .i64 tx.n, .string tx.s, .slice px tx.len cx] 24)) := bA (Below.refl _ Wq) _
        have H1 := Lib.hid (And.intro (own_below hJ hj hbq) (And.intro (hkq.trans (Kept.below hsafe (by omega) hbq)) (hmq.from (below_from hbq))))
        have H3 := Lib.hid hbq
        clear hj hkq hmq hx hbq
        gi_wp2
        exact hK _ _ H3.out H1.out ⟨Wq.heap.size, rfl, World.alloc_heap_new Wq _⟩
      case body =>
        rintro l2 q x a' Wq ⟨hj, hkq, hmq⟩ hx hszq hmem ⟨bx, rfl, hbxq⟩ hlen
        obtain ⟨tx, sx⟩ := x
        obtain ⟨px, cx, h⟩ := hx.plain.slice
        have h : sx = .slice px tx.len cx := h
        subst h
        have hyq : Wq.heap[W.heap.size]? = some (.cells #[.func (.yield l) #[] #[]] 35 (0, 0)) := ((HKK.out.trans ((Kept.below hsafe (by omega) HB3.out).trans hkq)).same _ _ HYB.out.2 HYB.out.1).1
        have y0 : Wq.cell? ⟨W.heap.size, 0, none⟩ = some (.func (.yield l) #[] #[]) := by unfold World.cell?; rw [hyq]; rfl
        have e0 : Wq.cell? ⟨bx, 0, none⟩ = some (.int .i64 tx.k) := by unfold World.cell?; rw [hbxq]; rfl
        have e1 : Wq.cell? ⟨bx, 1, none⟩ = some (.int .i64 tx.n) := by unfold World.cell?; rw [hbxq]; rfl
        have e2 : Wq.cell? ⟨bx, 2, none⟩ = some (.string tx.s) := by unfold World.cell?; rw [hbxq]; rfl
        have e3 : Wq.cell? ⟨bx, 3, none⟩ = some (.slice px tx.len cx) := by unfold World.cell?; rw [hbxq]; rfl
        obtain ⟨fn, tm, asg, bd, hy, hR⟩ := HY.out (pre ++ q) (tx, .slice px tx.len cx) Wq hj hx (List.mem_cons_of_mem _ ((partsTo_prefix f (k := k + 1) (n := t.len) (by omega)).subset (by rw [partsTo]; exact List.mem_append_right _ hmem))) (by rw [List.length_append, List.length_cons]; have := HPL.out; have := HPL2.out; omega)
        dsimp only [VT.val] at hy
        have HKQ := Lib.hid hkq
        have HMQ := Lib.hid hmq
        clear hj hkq hmq hx hyq hbxq hlen hmem
        unfold actR
        gi_wp2
        refine ⟨rfl, hR.mono ?_⟩
        clear hR hy
        rintro e W9 (⟨rfl, hJ9, hk9, hf9⟩ | ⟨rfl, hJx9, hf9⟩)
        · have H9 := Lib.hid (show _ ∧ _ ∧ _ from ⟨hJ9, hk9, hf9⟩)
          clear hJ9 hk9 hf9 e0 e1 e2 e3 y0
          gi_wp2
          exact ⟨from_mono H9.out.2.2 (by omega), H9.out.2.1, by rw [← List.append_assoc]; exact H9.out.1, HKQ.out.trans H9.out.2.1, HMQ.out.from H9.out.2.2⟩
        · have H9 := Lib.hid (show _ ∧ _ from ⟨hJx9, hf9⟩)
          clear hJx9 hf9 e0 e1 e2 e3 y0
          gi_wp2
          exact ⟨from_mono H9.out.2 (by omega), rfl, by rw [← List.append_assoc]; exact H9.out.1, HMQ.out.from H9.out.2⟩
      case done =>
        rintro D xs Wq hD hxs ⟨hj, hkq, hmq⟩ hDk
        have H1 := Lib.hid (show _ ∧ _ ∧ _ from ⟨hj, hkq, marks_cons hmq (by omega) hDk fun D' h' => by have := HDS.out D' h'; omega⟩)
        clear hj hkq hmq hDk
        gi_wp2
        refine ⟨⟨k + 1, .pointer (some ⟨w'.heap.size, 0, none⟩), .bool true, .pointer (some ⟨b, o + k * 4, none⟩), (t.kid k).val (.slice p' (t.kid k).len cap'), (t.kid k).val (.slice p' (t.kid k).len cap'), .func (.func 32) #[] #[.pointer (some ⟨wb.heap.size, 0, none⟩)], .int .i64 ((k : Int) + 1), D :: Ds, ?_, by omega, H1.out.2.2, HKK.out.trans ((Kept.below hsafe (by omega) HB3.out).trans H1.out.2.1), pre ++ xs, ?_, H1.out.1⟩, ?_⟩
        · rw [show ((k + 1 : Nat) : Int) = (k : Int) + 1 from by omega]
          rfl
        · rw [List.map_append, HPRE.out, hxs, partsTo]
          rfl
        · simp [intOf]
          omega
      case stop =>
        rintro D c q Wq hD hq ⟨rfl, hjx, hmq⟩ hDk
        have H1 := Lib.hid (show _ ∧ _ from ⟨hjx, marks_cons hmq (by omega) hDk fun D' h' => by have := HDS.out D' h'; omega⟩)
        clear hjx hmq hDk
        gi_wp2
        exact marks_leave (B := W.heap.size) rfl (T := fun V => Jx (pre ++ q) V) (fun _ A C row h => hJx _ A C row h) (fun V h => ⟨⟨_, rfl⟩, .inr ⟨pre ++ q, by rw [List.map_append, HPRE.out]; exact parts_pre hlt hq, h⟩⟩) (D :: Ds) Wq H1.out.2 H1.out.1
    · have hkm : k = t.len := by omega
      gi_wp2
      exact marks_leave (B := W.heap.size) rfl (T := fun V => J pre V) (fun _ A C row h => hJ _ A C row h) (fun V h => ⟨⟨_, rfl⟩, .inl ⟨pre, by rw [HPRE.out, hkm], h⟩⟩) Ds w' HM.out HJ3.out
  · have hl0 := hf2
    gi_wp2
    exact ⟨_, results_none rfl _ _ _, ⟨_, rfl⟩, .inr ⟨[(t, .slice p t.len cap)], ⟨partsTo f t.len, rfl⟩, hJx2⟩⟩

theorem parts1_seq : ∀ (m : Nat) (t : VT), VT.rightB m t = true → ∀ (safe : World → Nat → Obj → Prop) (sl : Value) (Bv : Nat) (w : World), Safe safe w.heap.size → w.heap[Bv]? = some (.cells #[.int .i64 t.k, .int .i64 t.n, .string t.s, sl] 24 (0, 0)) →
    safe w Bv (.cells #[.int .i64 t.k, .int .i64 t.n, .string t.s, sl] 24 (0, 0)) → VT.InS safe w t sl → Seq 32 #[.pointer (some ⟨Bv, 0, none⟩)] (VT.partsM m t) safe w := by
  intro m
  induction m with
  | zero =>
    intro t hr safe sl Bv w h1 h2 h3 h5
    have h0 := VT.rightB_kid0 hr
    have h := parts1_step t (by omega) (fun _ => []) safe (fun i hi => by omega) sl Bv w h1 h2 h3 h5
    rw [h0] at h
    exact h
  | succ m ih =>
    intro t hr safe sl Bv w h1 h2 h3 h5
    obtain ⟨h4, hk⟩ := VT.rightB_kid hr
    exact parts1_step t h4 (fun i => VT.partsM m (t.kid i)) safe (fun i hi sl Bv w a b c d => ih (t.kid i) (hk i hi) safe sl Bv w a b c d) sl Bv w h1 h2 h3 h5
end Go.Proofs.YtbgpipdbnjoeeaaDoor
