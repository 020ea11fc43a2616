/-
  value.Parts over this seat's translation: the iterator that hands out copies of a value's parts. Conditions: those that each theorem states.
-/
import Derived.Test.YtbgpipdbnjoeeaaDoorSeqB
namespace Go.Proofs.YtbgpipdbnjoeeaaDoor
open Go.RowKit Go.Shelf Go.ChangeShapes Go.WideShapes Go.ChangeAt Go.Deep
attribute [local go_sem] Oper.semAt_some

theorem partsM_sm : ∀ (m : Nat) (t : VT), t.Sm → ∀ x ∈ VT.partsM m t, x.Sm
  | 0, t, h, x, hx => by
    rw [VT.partsM, List.mem_singleton] at hx
    rw [hx]; exact h
  | m + 1, t, h, x, hx => by
    rw [VT.partsM, List.mem_cons] at hx
    rcases hx with rfl | hx
    · exact h
    · have key : ∀ n, n ≤ t.len → x ∈ partsTo (fun i => VT.partsM m (t.kid i)) n → x.Sm := by
        intro n
        induction n with
        | zero => intro _ h; simp [partsTo] at h
        | succ n ih =>
          intro hn hx
          rw [partsTo, List.mem_append] at hx
          rcases hx with hx | hx
          · exact ih (by omega) hx
          · exact partsM_sm m (t.kid n) (h.out.2.2 n (by omega)) x hx
      exact key t.len (Nat.le_refl _) hx
theorem yield_res {e : Ending} {A B : Prop} (h : (e = .returned (.bool true) ∧ A) ∨ (e = .returned (.bool false) ∧ B)) : ∃ r : Bool, e = .returned (.bool r) ∧ ((r = true ∧ A) ∨ (r = false ∧ B)) := by
  rcases h with ⟨h, a⟩ | ⟨h, b⟩
  · exact ⟨true, h, .inl ⟨rfl, a⟩⟩
  · exact ⟨false, h, .inr ⟨rfl, b⟩⟩
namespace VT
theorem Fresh.out {B : Nat} {w : World} : ∀ {t : VT} {sl : Value}, Fresh B w t sl → I64 t.k ∧ I64 t.n ∧ t.s.size ≤ 9223372036854775807 ∧ t.len ≤ 9223372036854775807 ∧ ∃ (p : Option Addr) (cap : Nat), sl = .slice p t.len cap ∧ t.len ≤ cap ∧ cap ≤ 9223372036854775807 ∧
      (0 < t.len → ∃ b o, B ≤ b ∧ p = some ⟨b, o, none⟩ ∧ ∀ i, i < t.len → ∃ sl', Cell4 w b (o + i * 4) (t.kid i) sl' ∧ Fresh B w (t.kid i) sl')
  | .mk k n s len kids, sl, h => by
    obtain ⟨h1, h2, h3, h4, p, cap, hsl, hcap, hsz, hi⟩ := h
    refine ⟨h1, h2, h3, h4, p, cap, hsl, hcap, hsz, fun hl => ?_⟩
    obtain ⟨b, o, hp, hu, hi⟩ := hi hl
    refine ⟨b, o, hp, hu, fun i (hil : i < len) => ?_⟩
    obtain ⟨sl', c, hk⟩ := hi i hil
    exact ⟨sl', by rw [kid_mk hil]; exact c, by rw [kid_mk hil]; exact hk⟩
end VT
/-- A tree in memory made since is safe. -/
theorem fresh_safe {safe : World → Nat → Obj → Prop} {B : Nat} (S : Safe safe B) {W W' : World} (hB : B ≤ W.heap.size) {b0 : Nat} {o0 : Obj} (hs0 : safe W b0 o0) (hb0 : W.heap[b0]? = some o0) (hb : Below W.heap.size W W') : ∀ (t : VT) (sl : Value), t.Fresh W.heap.size W' sl → VT.InS safe W' t sl := by
  intro t
  induction t using VT.ind with
  | h t ih =>
    intro sl h
    obtain ⟨h1, h2, h3, h4, p, cap, hsl, hlc, hcap, hi⟩ := h.out
    refine VT.InS.mk' h1 h2 h3 h4 hsl hlc hcap fun hl => ?_
    obtain ⟨b, o, hge, hp, hi⟩ := hi hl
    obtain ⟨_, ⟨c0, _⟩, _⟩ := hi 0 hl
    obtain ⟨u, hu, hc⟩ : ∃ u : Obj, W'.heap[b]? = some u ∧ u.isCells = true := by
      unfold World.cell? at c0
      cases hu : W'.heap[b]? with
      | none => rw [hu] at c0; cases c0
      | some u => rw [hu] at c0; refine ⟨u, rfl, ?_⟩; cases u <;> first | rfl | (simp at c0)
    refine ⟨b, o, u, hp, hu, S.new W W' b u b0 o0 hB hs0 hb0 hb hge hu hc, fun i hil => ?_⟩
    obtain ⟨sl', c, hk⟩ := hi i hil
    exact ⟨sl', c, ih i hil sl' hk⟩
/-- The temporaries of a round of Parts$2. -/
def actQ (l Bk B B5 : Nat) (t : VT) (p : Option Addr) (cap : Nat) (x : XV) (bx : Nat) : Act :=
  { tmps := #[.func (.yield l) #[] #[], .pointer (some ⟨Bk, 0, none⟩), .pointer (some ⟨B, 0, none⟩), .pointer (some ⟨bx, 0, none⟩), .agg #[.int .i64 t.k, .int .i64 t.n, .string t.s, .slice p t.len cap],
      .func (.func 32) #[] #[.pointer (some ⟨B5, 0, none⟩)], .agg #[.int .i64 x.1.k, .int .i64 x.1.n, .string x.1.s, x.2], undef, undef, undef, undef, undef], defers := [] }

set_option maxRecDepth 100000 in
set_option maxHeartbeats 4000000 in
theorem parts2_seq (m : Nat) (t : VT) (hr : VT.rightB m t = true) (hsm : t.Sm) (safe : World → Nat → Obj → Prop) (sl : Value) (Bk : Nat) (w : World) (hsafe : Safe safe w.heap.size)
    (hbox : w.heap[Bk]? = some (.cells #[.int .i64 t.k, .int .i64 t.n, .string t.s, sl] 24 (0, 0)))
    (hbs : safe w Bk (.cells #[.int .i64 t.k, .int .i64 t.n, .string t.s, sl] 24 (0, 0))) (hin : VT.InS safe w t sl) :
    Seq 21 #[.pointer (some ⟨Bk, 0, none⟩)] (VT.partsM m t) safe w := by
  intro l J Jx W hW hJ hJx hY h0
  have hkW : Kept safe w W := Kept.below hsafe (Nat.le_refl _) hW
  obtain ⟨hboxW, hbsW⟩ := hkW.same _ _ hbs hbox
  have hinW := hin.keep hkW
  obtain ⟨p, cap, rfl⟩ := (hin.plain).slice
  have hsz := hW.size
  have c0 : W.cell? ⟨Bk, 0, none⟩ = some (.int .i64 t.k) := by unfold World.cell?; rw [hboxW]; rfl
  have c1 : W.cell? ⟨Bk, 1, none⟩ = some (.int .i64 t.n) := by unfold World.cell?; rw [hboxW]; rfl
  have c2 : W.cell? ⟨Bk, 2, none⟩ = some (.string t.s) := by unfold World.cell?; rw [hboxW]; rfl
  have c3 : W.cell? ⟨Bk, 3, none⟩ = some (.slice p t.len cap) := by unfold World.cell?; rw [hboxW]; rfl
  obtain ⟨W1, hW1⟩ : ∃ W1, W.alloc (.cells #[.func (.yield l) #[] #[]] 35) = W1 := ⟨_, rfl⟩
  have hBl : Below W.heap.size W W1 := hW1 ▸ bA (Below.refl _ W) _
  have hyb : W1.heap[W.heap.size]? = some (.cells #[.func (.yield l) #[] #[]] 35 (0, 0)) := hW1 ▸ World.alloc_heap_new W _
  have hs1 := hBl.size
  have hlt1 : W.heap.size < W1.heap.size := (Array.getElem?_eq_some_iff.1 hyb).1
  replace c0 := kc (hW1 ▸ hBl : Below W.heap.size W (W.alloc (.cells #[.func (.yield l) #[] #[]] 35))) c0
  replace c1 := kc (hW1 ▸ hBl : Below W.heap.size W (W.alloc (.cells #[.func (.yield l) #[] #[]] 35))) c1
  replace c2 := kc (hW1 ▸ hBl : Below W.heap.size W (W.alloc (.cells #[.func (.yield l) #[] #[]] 35))) c2
  replace c3 := kc (hW1 ▸ hBl : Below W.heap.size W (W.alloc (.cells #[.func (.yield l) #[] #[]] 35))) c3
  have hin1 := hinW.keep (Kept.below hsafe hsz hBl)
  have hnew := hsafe.new W _ W.heap.size _ _ _ hsz hbsW hboxW hBl (Nat.le_refl _) hyb rfl
  have HP := Lib.hid (parts_c t _ _ hin1.plain)
  have HY := Lib.hid hY
  have HW1 := Lib.hid hW1
  have HYB := Lib.hid hyb
  have HNEW := Lib.hid hnew
  clear hY hW1 hyb hnew
  refine callsIn_of_wp_marks Tryd.func21 rfl trivial ?_ rfl
  simp only [Tryd.ntmps21, List.size_toArray, List.length_cons, List.length_nil, Nat.reduceAdd, Nat.reduceSub, Array.replicate_succ, Array.replicate_zero, List.push_toArray, List.append_toArray, List.nil_append, List.cons_append]
  gi_wp2_with fail
  rw [HW1.out]
  refine ⟨trivial, rfl, (callsIn_wide.2 HP.out).mono ?_⟩
  rintro e w5 ⟨rfl, hw5⟩
  have hb2 : Below W1.heap.size W1 w5 := hw5 ▸ bA (Below.refl _ W1) _
  have hbx : w5.heap[W1.heap.size]? = some (.cells #[.int .i64 t.k, .int .i64 t.n, .string t.s, .slice p t.len cap] 24 (0, 0)) := hw5 ▸ World.alloc_heap_new W1 _
  have hb3 := bT hBl hb2
  have hs5 := hb2.size
  clear hw5
  have hj5 := own_below hJ h0 hb3
  have HKID := Lib.hid (parts1_seq m t hr safe _ W1.heap.size w5 (hsafe.mono (by omega)) hbx (hsafe.new W1 _ _ _ _ _ (by omega) HNEW.out HYB.out hb2 (Nat.le_refl _) hbx rfl) (hin1.keep (Kept.below hsafe (by omega) hb2)))
  have HJ5 := Lib.hid hj5
  obtain ⟨hyb5, hys5⟩ := (Kept.below hsafe (by omega) hb2).same _ _ HNEW.out HYB.out
  have HYB5 := Lib.hid (And.intro hyb5 hys5)
  clear hj5 hyb5 hys5 hbx hb2 hb3 hBl c0 c1 c2 c3 hin1 hinW hin hboxW hbox h0
  gi_wp2
  refine range_law (gf := 32) (lb := #[.pointer (some ⟨W1.heap.size, 0, none⟩)]) (full := VT.partsM m t) (safe := safe) rfl (enters_of Tryd.func32 (by kernel_rfl) rfl) (hsafe.mono (by omega)) HKID.out rfl
    (fun q Wq => (∃ q' : List XV, q'.map Prod.fst = q.map Prod.fst ∧ J q' Wq) ∧ Kept safe w5 Wq)
    (fun c q Wq => c = .ret ∧ ∃ q' : List XV, q'.map Prod.fst = q.map Prod.fst ∧ Jx q' Wq) ?hI ?hIx ⟨⟨[], rfl, HJ5.out⟩, Kept.refl _⟩
    (fun x a' Wq => ∃ bx, a' = actQ l Bk W.heap.size W1.heap.size t p cap x bx ∧ Wq.heap[bx]? = some (.cells #[.int .i64 x.1.k, .int .i64 x.1.n, .string x.1.s, x.2] 24 (0, 0))) ?hAx ?assign ?body ?done ?stop
  case hI =>
    rintro s A B row ⟨⟨q', h0, h1⟩, h2⟩ hgr hr
    exact ⟨⟨q', h0, own_mono hJ (by omega) _ A B row h1 hgr hr⟩, h2.trans (Kept.grown hsafe (by have := h2.size; omega) hgr fun r e => (hr r e).2)⟩
  case hIx =>
    rintro c s A B row ⟨h1, q', h0, h2⟩ hgr hr
    exact ⟨h1, q', h0, own_mono hJx (by omega) _ A B row h2 hgr hr⟩
  case hAx =>
    rintro x a' s A B row ⟨bx, e, hb⟩ hgr hr
    exact ⟨bx, e, cells_grown hb hgr hr⟩
  case assign =>
    rintro l2 q x Wq K ⟨⟨q', hq', hj⟩, hkq⟩ hx hszq hK
    obtain ⟨tx, sx⟩ := x
    obtain ⟨px, cx, h⟩ := hx.plain.slice
    have h : sx = .slice px tx.len cx := h
    subst h
    have hbq : Below Wq.heap.size Wq (Wq.alloc (.cells #[.int .i64 tx.k, .int .i64 tx.n, .string tx.s, .slice px tx.len cx] 24)) := bA (Below.refl _ Wq) _
    have H1 := Lib.hid (And.intro (own_below hJ hj hbq) (hkq.trans (Kept.below hsafe (by omega) hbq)))
    have H3 := Lib.hid hbq
    clear hj hkq hx hbq
    gi_wp2
    exact hK _ _ H3.out ⟨⟨q', hq', H1.out.1⟩, H1.out.2⟩ ⟨Wq.heap.size, rfl, World.alloc_heap_new Wq _⟩
  case body =>
    rintro l2 q x a' Wq ⟨⟨q', hq', hj⟩, hkq⟩ hx hszq hmem ⟨bx, rfl, hbxq⟩ hlen
    obtain ⟨tx, sx⟩ := x
    obtain ⟨px, cx, h⟩ := hx.plain.slice
    have h : sx = .slice px tx.len cx := h
    subst h
    obtain ⟨hyq, hys⟩ := hkq.same _ _ HYB5.out.2 HYB5.out.1
    have y0 : Wq.cell? ⟨W.heap.size, 0, none⟩ = some (.func (.yield l) #[] #[]) := by unfold World.cell?; rw [hyq]; rfl
    have e0 : Wq.cell? ⟨bx, 0, none⟩ = some (.int .i64 tx.k) := by unfold World.cell?; rw [hbxq]; rfl
    have e1 : Wq.cell? ⟨bx, 1, none⟩ = some (.int .i64 tx.n) := by unfold World.cell?; rw [hbxq]; rfl
    have e2 : Wq.cell? ⟨bx, 2, none⟩ = some (.string tx.s) := by unfold World.cell?; rw [hbxq]; rfl
    have e3 : Wq.cell? ⟨bx, 3, none⟩ = some (.slice px tx.len cx) := by unfold World.cell?; rw [hbxq]; rfl
    have HC := Lib.hid (copy_c tx (partsM_sm m t hsm tx hmem) (.slice px tx.len cx))
    have HX := Lib.hid hx.plain
    have HYS := Lib.hid (And.intro hys hyq)
    have HKQ := Lib.hid hkq
    have HJQ := Lib.hid hj
    have HLEN := Lib.hid (show q'.length < (VT.partsM m t).length by rw [show q'.length = q.length from by rw [← List.length_map (f := Prod.fst), hq', List.length_map]]; exact hlen)
    have HMEM := Lib.hid hmem
    clear hj hkq hx hyq hys hbxq hlen hmem
    unfold actQ
    have hmx : Tryd.prog.follows .mixedOrders = true := by kernel_rfl
    gi_wp2_with fail
    gi_region_with_o (first
      | (refine ⟨trivial, rfl, ?_⟩; gi_at_call 20; refine (CallsIn.inRound l2 (callsIn_wide.2 (HC.out _ (inK (by first | exact Below.refl _ _ | exact Below.drew (Below.refl _ _) | exact bN (Below.refl _ _) _) HX.out)))).mono ?_; rintro e w8 hret
         obtain ⟨p8, cap8, rfl, hfr, hb⟩ := hret
         have hbq : Below Wq.heap.size Wq w8 := (by first | exact hb | exact (Below.drew (Below.refl Wq.heap.size Wq)).trans hb)
         have z0 := kc hbq y0
         have z1 := kc hbq e0
         obtain ⟨fn, tm, asg, bd, hy, hR⟩ := HY.out q' (tx, .slice p8 tx.len cap8) w8 (own_below hJ HJQ.out hbq) (fresh_safe hsafe (by omega) HYS.out.1 HYS.out.2 hbq _ _ hfr) HMEM.out HLEN.out
         dsimp only [VT.val] at hy
         have HBQ := Lib.hid hbq
         clear hfr hb hbq)
      | (refine ⟨rfl, hR.mono ?_⟩; rintro e W9 h9; obtain ⟨r, rfl, h10⟩ := yield_res h9; have H9 := Lib.hid h10; clear h9 h10))
    all_goals rcases H9.out with ⟨rfl, h⟩ | ⟨rfl, h⟩
    all_goals have HH := Lib.hid h
    all_goals clear h
    all_goals gi_wp2
    all_goals first
      | exact ⟨(below_from HBQ.out).trans (from_mono HH.out.2.2 (by omega)), (Kept.below hsafe (by omega) HBQ.out).trans HH.out.2.1, ⟨q' ++ [(tx, .slice p8 tx.len cap8)], by rw [List.map_append, List.map_append, hq']; rfl, HH.out.1⟩, HKQ.out.trans ((Kept.below hsafe (by omega) HBQ.out).trans HH.out.2.1)⟩
      | exact ⟨(below_from HBQ.out).trans (from_mono HH.out.2 (by omega)), rfl, q' ++ [(tx, .slice p8 tx.len cap8)], by rw [List.map_append, List.map_append, hq']; rfl, HH.out.1⟩
  case done =>
    rintro D xs Wq hD hxs ⟨⟨q', hq', hj⟩, hkq⟩ hDk
    have H1 := Lib.hid (show _ ∧ _ from ⟨hj, marks_cons (B := W.heap.size) (Ds := []) ⟨List.Pairwise.nil, fun D h => by simp at h⟩ (by omega) hDk fun D' h' => by simp at h'⟩)
    clear hj hkq hDk
    gi_wp2
    exact marks_leave (B := W.heap.size) rfl (T := fun V => J q' V) (fun _ A C row h => hJ _ A C row h) (fun V h => ⟨⟨_, rfl⟩, .inl ⟨q', hq'.trans hxs, h⟩⟩) [D] Wq H1.out.2 H1.out.1
  case stop =>
    rintro D c q Wq hD hq ⟨rfl, q', hq', hjx⟩ hDk
    have H1 := Lib.hid (show _ ∧ _ from ⟨hjx, marks_cons (B := W.heap.size) (Ds := []) ⟨List.Pairwise.nil, fun D h => by simp at h⟩ (by omega) hDk fun D' h' => by simp at h'⟩)
    clear hjx hDk
    gi_wp2
    exact marks_leave (B := W.heap.size) rfl (T := fun V => Jx q' V) (fun _ A C row h => hJx _ A C row h) (fun V h => ⟨⟨_, rfl⟩, .inr ⟨q', by rw [hq']; exact hq, h⟩⟩) [D] Wq H1.out.2 H1.out.1
end Go.Proofs.YtbgpipdbnjoeeaaDoor
