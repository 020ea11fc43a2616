/-
  The contract of the law ValueParts over this seat's translation: whatever value and number it is handed, it answers true. Conditions: those that each theorem states.
-/
import Derived.Test.YtbgpipdbnjoeeaaDoorSeqG
import Derived.Test.YtbgpipdbnjoeeaaDoorAwake
import Derived.Test.YtbgpipdbnjoeeaaDoorFew
import Derived.Test.YtbgpipdbnjoeeaaDoorRSameV
import Derived.Test.YtbgpipdbnjoeeaaDoorRightC
namespace Go.Proofs.YtbgpipdbnjoeeaaDoor
open Go.RowKit Go.Shelf Go.ChangeShapes Go.WideShapes Go.ChangeAt Go.Deep Go.Maps
attribute [local go_sem] Oper.semAt_some

/-- What is apart from one box. -/
def safeN (Nb : Nat) (_ : World) (b : Nat) (o : Obj) : Prop := o.isCells = true ∧ b ≠ Nb
theorem safeN_safe (Nb : Nat) : Safe (safeN Nb) (Nb + 1) :=
  ⟨fun _ _ _ h => h.1, fun _ _ _ _ _ _ _ _ h _ => h, fun _ _ b _ _ _ hB _ _ _ hge _ hc => ⟨hc, by omega⟩⟩
/-- Cells of old lie as they lay. -/
def Stay (W W' : World) : Prop := ∀ (b : Nat) (o : Obj), W.heap[b]? = some o → o.isCells = true → W'.heap[b]? = some o
theorem Stay.cell {W W' : World} (h : Stay W W') {b o : Nat} {v : Value} (hc : W.cell? ⟨b, o, none⟩ = some v) : W'.cell? ⟨b, o, none⟩ = some v := by
  obtain ⟨u, hu, huc⟩ := lt_of_cell0 hc
  rw [← hc]
  exact World.cell?_of_block ((h b u hu huc).trans hu.symm)
theorem Stay.below {W W' : World} (h : Below W.heap.size W W') : Stay W W' := fun b _ hb _ => (h.block b (Array.getElem?_eq_some_iff.1 hb).1).trans hb
theorem Stay.trans {A B C : World} (h : Stay A B) (k : Stay B C) : Stay A C := fun b o hb hc => k b o (h b o hb hc) hc
theorem Stay.kept {Nb : Nat} {A B C : World} (h : Below A.heap.size A B) (hN : A.heap.size ≤ Nb) (k : Kept (safeN Nb) B C) : Stay A C := fun b o hb hc => by
  have hlt := (Array.getElem?_eq_some_iff.1 hb).1
  exact (k.same b o ⟨hc, by omega⟩ ((h.block b hlt).trans hb)).1
theorem in_cells {W W' : World} (hc : ∀ b o v, W.cell? ⟨b, o, none⟩ = some v → W'.cell? ⟨b, o, none⟩ = some v) : ∀ (t : VT) (sl : Value), VT.In W t sl → VT.In W' t sl := by
  intro t
  induction t using VT.ind with
  | h t ih =>
    intro sl h
    obtain ⟨h1, h2, h3, h4, p, cap, hsl, hlc, hcap, hi⟩ := h.out
    refine VT.In.mk h1 h2 h3 h4 hsl hlc hcap fun hl => ?_
    obtain ⟨b, o, hp, hi⟩ := hi hl
    refine ⟨b, o, hp, fun i hil => ?_⟩
    obtain ⟨sl', ⟨c0, c1, c2, c3⟩, hk⟩ := hi i hil
    exact ⟨sl', ⟨hc _ _ _ c0, hc _ _ _ c1, hc _ _ _ c2, hc _ _ _ c3⟩, ih i hil sl' hk⟩

/-- A list of values in memory. -/
structure Lst (L : List VT) (p : Option Addr) (w : World) : Prop where
  all : ∃ ps : List XV, ps.map Prod.fst = L ∧ ∀ i x, ps[i]? = some x → VT.In w x.1 x.2 ∧ ∃ g, p = some ⟨g, 0, none⟩ ∧ VT.Cell4 w g (i * 4) x.1 x.2
theorem Lst.stay {L : List VT} {p : Option Addr} {w w' : World} (h : Lst L p w) (hs : Stay w w') : Lst L p w' := by
  obtain ⟨ps, h1, h2⟩ := h.all
  refine ⟨ps, h1, fun i x hi => ?_⟩
  obtain ⟨h3, g, h4, c0, c1, c2, c3⟩ := h2 i x hi
  exact ⟨in_cells (fun _ _ _ c => hs.cell c) _ _ h3, g, h4, hs.cell c0, hs.cell c1, hs.cell c2, hs.cell c3⟩
theorem Lst.nil (p : Option Addr) (w : World) : Lst [] p w := ⟨[], rfl, fun i x h => by simp at h⟩
theorem cells4_at : ∀ (q : List XV) (i : Nat) (x : XV), q[i]? = some x → (cells4 q)[i * 4]? = some (.int .i64 x.1.k) ∧ (cells4 q)[i * 4 + 1]? = some (.int .i64 x.1.n) ∧ (cells4 q)[i * 4 + 2]? = some (.string x.1.s) ∧ (cells4 q)[i * 4 + 3]? = some x.2
  | [], i, x, h => by simp at h
  | y :: q, 0, x, h => by
    simp at h
    subst h
    exact ⟨rfl, rfl, rfl, rfl⟩
  | y :: q, i + 1, x, h => by
    have := cells4_at q i x (by simpa using h)
    rw [show (i + 1) * 4 = i * 4 + 4 from by omega]
    exact this
theorem own_lst {w : World} {B n : Nat} {v : Value} {q : List XV} (h : w.ownsRow B 24 4 v n (cells4 q)) (hi : ∀ x ∈ q, VT.In w x.1 x.2) : ∃ p cap, v = .slice p n cap ∧ Lst (q.map Prod.fst) p w := by
  rcases id h.2 with ⟨rfl, e⟩ | ⟨g, cap, cur, rfl, _⟩
  · have hl := h.1
    rw [cells4_len, e] at hl
    have : q = [] := List.eq_nil_of_length_eq_zero (by omega)
    subst this
    exact ⟨none, 0, by rw [e], Lst.nil _ _⟩
  · refine ⟨_, cap, rfl, q, rfl, fun i x hx => ⟨hi x (List.mem_of_getElem? hx), g, rfl, ?_⟩⟩
    obtain ⟨c0, c1, c2, c3⟩ := cells4_at q i x hx
    have hlt := (List.getElem?_eq_some_iff.1 hx).1
    have hl := h.1
    rw [cells4_len] at hl
    exact ⟨(h.cellAt _ (by omega)).trans c0, (h.cellAt _ (by omega)).trans c1, (h.cellAt _ (by omega)).trans c2, (h.cellAt _ (by omega)).trans c3⟩
theorem rowP_lst {w0 w : World} {B : Nat} {L : List VT} {v : Value} (h : RowP w0 B L v w) (hb : Below w0.heap.size w0 w) : ∃ p cap, v = .slice p L.length cap ∧ Lst L p w := by
  obtain ⟨g, cap, ps, rfl, h1, h2, h3⟩ := h
  obtain ⟨p, cap', e, h4⟩ := own_lst h3 fun x hx => VT.keep hb _ _ (h2 x hx)
  rw [h1] at h4
  exact ⟨p, cap', by rw [e, ← h1, List.length_map], h4⟩

/-- The temporaries of a round of the law's range statement. -/
def actN (B B1 Nb : Nat) (k n : Int) (s : ByteArray) (pa : Option Addr) (len ca stop : Nat) (want got : Value) (ok : Bool) (u20 u21 : Value) (gf1 : Nat) (lb1 : Array Value) (gf2 : Nat) (lb2 : Array Value) (u27 : Value) : Act :=
  { tmps := #[.agg #[.int .i64 k, .int .i64 n, .string s, .slice pa len ca], .int .u8 (stop : Int), .pointer (some ⟨B, 0, none⟩), .pointer (some ⟨B + 1, 0, none⟩), .bool false, want, got, .pointer (some ⟨Nb, 0, none⟩), undef, .bool true, .bool false, .bool false,
      .agg #[.int .i64 k, .int .i64 n, .string s, .slice pa len ca], .slice (some ⟨B1, 0, none⟩) 1 1, .bool true, .bool false, .bool false, undef, .agg #[.int .i64 k, .int .i64 n, .string s, .slice pa len ca], .bool ok, u20, u21,
      .agg #[.int .i64 k, .int .i64 n, .string s, .slice pa len ca], .func (.func gf1) #[] lb1, got, .agg #[.int .i64 k, .int .i64 n, .string s, .slice pa len ca], .func (.func gf2) #[] lb2, u27,
      undef, undef, undef, undef, undef, undef, undef, undef, undef, undef, undef, undef, undef, undef, undef, undef, undef, undef, undef, undef, undef, undef, undef, undef, undef, undef, undef, undef, undef, undef, undef, undef, undef, undef, undef, undef, undef, undef, undef, undef, undef, undef, undef, undef, undef, undef], defers := [] }

set_option maxRecDepth 100000 in
set_option maxHeartbeats 4000000 in
theorem partsL_c (x : VT) (sl : Value) (stop : Nat) (hstop : stop ≤ 255) (w : World) (he : Tab w) (h1 : VT.In w x sl) :
    Calls Tryd.prog 3 #[x.val sl, .int .u8 (stop : Int)] w fun e w' => e = .returned (.bool true) ∧ Below w.heap.size w w' := by
  have HE := Lib.hid he
  have HN := Lib.hid h1
  obtain ⟨pa, ca, rfl⟩ := h1.slice
  clear h1 he
  have k1 := fun w h => rright_v 3 (by omega) x (.slice pa x.len ca) w h
  rw [show VT.rightB 3 x = x.okB from rfl] at k1
  have K1 := Lib.hid k1
  have KV := Lib.hid fun (h : x.Sm) w h' => vparts_any x h (.slice pa x.len ca) w h'
  have KP := Lib.hid fun (h : x.okB = true) w0 w h' hb => rparts_v 3 (by omega) x h w0 (.slice pa x.len ca) w h' hb
  clear k1
  unfold VT.val at *
  have WB : Below w.heap.size w ((w.alloc (.cells #[.int .i64 x.k, .int .i64 x.n, .string x.s, .slice pa x.len ca] 24)).alloc (.cells #[.int .u8 (stop : Int)] 5)) := bA (bA (Below.refl _ _) _) _
  have q0 : ((w.alloc (.cells #[.int .i64 x.k, .int .i64 x.n, .string x.s, .slice pa x.len ca] 24)).alloc (.cells #[.int .u8 (stop : Int)] 5)).cell? ⟨w.heap.size, 0, none⟩ = some (.int .i64 x.k) := by go_simp
  have q1 : ((w.alloc (.cells #[.int .i64 x.k, .int .i64 x.n, .string x.s, .slice pa x.len ca] 24)).alloc (.cells #[.int .u8 (stop : Int)] 5)).cell? ⟨w.heap.size, 1, none⟩ = some (.int .i64 x.n) := by go_simp
  have q2 : ((w.alloc (.cells #[.int .i64 x.k, .int .i64 x.n, .string x.s, .slice pa x.len ca] 24)).alloc (.cells #[.int .u8 (stop : Int)] 5)).cell? ⟨w.heap.size, 2, none⟩ = some (.string x.s) := by go_simp
  have q3 : ((w.alloc (.cells #[.int .i64 x.k, .int .i64 x.n, .string x.s, .slice pa x.len ca] 24)).alloc (.cells #[.int .u8 (stop : Int)] 5)).cell? ⟨w.heap.size, 3, none⟩ = some (.slice pa x.len ca) := by go_simp
  have r0 : ((w.alloc (.cells #[.int .i64 x.k, .int .i64 x.n, .string x.s, .slice pa x.len ca] 24)).alloc (.cells #[.int .u8 (stop : Int)] 5)).cell? ⟨w.heap.size + 1, 0, none⟩ = some (.int .u8 (stop : Int)) := by go_simp
  refine (callsIn_wide (n := 0)).1 ?_
  refine callsIn_of_wp_marks Tryd.func3 rfl trivial ?_ rfl
  simp only [Tryd.ntmps3, List.size_toArray, List.length_cons, List.length_nil, Nat.reduceAdd, Nat.reduceSub, Array.replicate_succ, Array.replicate_zero, List.push_toArray, List.append_toArray, List.nil_append, List.cons_append]
  gi_wp2_with fail
  generalize ((w.alloc (.cells #[.int .i64 x.k, .int .i64 x.n, .string x.s, .slice pa x.len ca] 24)).alloc (.cells #[.int .u8 (stop : Int)] 5)) = w0 at *
  refine ⟨trivial, rfl, (callsIn_wide.2 (awake_c _ (tab_stays _ _ WB HE.out))).mono ?_⟩
  rintro e w1 ⟨rfl, hb⟩
  replace WB := bT WB hb
  replace q0 := kc hb q0
  replace q1 := kc hb q1
  replace q2 := kc hb q2
  replace q3 := kc hb q3
  replace r0 := kc hb r0
  clear hb
  have HF := Lib.hid (VT.lst_in (w := w1.alloc (.cells #[.int .i64 x.k, .int .i64 x.n, .string x.s, .slice pa x.len ca] 24)) (f := fun _ => x) (n := 1) (b := w1.heap.size) (by omega) (fun i hi => by
    obtain rfl : i = 0 := by omega
    exact ⟨.slice pa x.len ca, ⟨by go_simp, by go_simp, by go_simp, by go_simp⟩, inK (bA WB _) HN.out⟩))
  gi_wp2_with fail
  refine ⟨trivial, rfl, (callsIn_wide.2 (few_c _ _ _ HF.out)).mono ?_⟩
  rintro e w2 hret
  obtain ⟨r, rfl, hfew, hb0⟩ := hret
  have hb := bT (bA (Below.refl _ w1) _) hb0
  have HFW := Lib.hid hfew
  clear hb0 HF hfew
  replace WB := bT WB hb
  replace q0 := kc hb q0
  replace q1 := kc hb q1
  replace q2 := kc hb q2
  replace q3 := kc hb q3
  replace r0 := kc hb r0
  clear hb
  cases r with
  | false =>
    gi_wp2_with fail
    refine ⟨trivial, rfl, (callsIn_wide.2 (awake_c _ (tab_stays _ _ WB HE.out))).mono ?_⟩
    rintro e w9 ⟨rfl, hb⟩
    gi_wp2
    exact ⟨_, results_tmp rfl _ _ _, rfl, bT WB hb⟩
  | true =>
  have hsm : x.Sm := by have := HFW.out rfl 0 (by show 0 < 1; omega); rwa [VT.lst_kid (by omega)] at this
  have KV2 := Lib.hid (KV.out hsm)
  clear hsm HFW KV
  gi_wp2_with fail
  refine ⟨trivial, rfl, (callsIn_wide.2 (K1.out _ (inK WB HN.out))).mono ?_⟩
  rintro e w3 ⟨rfl, hb⟩
  replace WB := bT WB hb
  replace q0 := kc hb q0
  replace q1 := kc hb q1
  replace q2 := kc hb q2
  replace q3 := kc hb q3
  replace r0 := kc hb r0
  clear hb
  cases hok : x.okB with
  | false =>
    have hL : x.comes = [] := by unfold VT.comes; rw [hok]; rfl
    have HL0 := Lib.hid hL
    clear hL
    gi_wp2_with fail
    refine ⟨trivial, rfl, (callsIn_wide.2 (KV2.out _ (inK WB HN.out))).mono ?_⟩
    rintro e w4 ⟨gf1, lb1, rfl, eg1, hb, hseq1⟩
    replace WB := bT WB hb
    replace q0 := kc hb q0
    replace q1 := kc hb q1
    replace q2 := kc hb q2
    replace q3 := kc hb q3
    replace r0 := kc hb r0
    clear hb
    gi_wp2_with fail
    refine ⟨trivial, rfl, (callsIn_wide.2 (collect_c x gf1 lb1 eg1 _ w4 w4 (Below.refl _ _) hseq1)).mono ?_⟩
    rintro e w5 ⟨ov, q, rfl, hq, hrow, hqi, hb⟩
    have hql : q.length = 0 := by
      have h : q.length = x.comes.length := by rw [← hq, List.length_map]
      first | exact h | (rw [h, HL0.out]; rfl)
    rw [hql] at hrow
    obtain ⟨pg, cg, rfl, hgot⟩ := own_lst hrow hqi
    rw [hq] at hgot
    replace WB := bT WB hb
    replace q0 := kc hb q0
    replace q1 := kc hb q1
    replace q2 := kc hb q2
    replace q3 := kc hb q3
    replace r0 := kc hb r0
    have hwant : Lst x.comes none w5 := by rw [HL0.out]; exact Lst.nil _ _
    have HQ := Lib.hid hq
    clear hb hrow hqi hseq1 hq hql
    have HR5 := Lib.hid r0
    have hb : Below w5.heap.size w5 (w5.alloc (.cells #[.int .i64 0] 3)) := bA (Below.refl _ _) _
    replace WB := bT WB hb
    replace q0 := kc hb q0
    replace q1 := kc hb q1
    replace q2 := kc hb q2
    replace q3 := kc hb q3
    replace r0 := kc hb r0
    have HN5 := Lib.hid (And.intro hb (World.alloc_heap_new w5 (.cells #[.int .i64 0] 3)))
    have HLST := Lib.hid (And.intro hwant hgot)
    have hsz5 : (w5.alloc (.cells #[.int .i64 0] 3)).heap.size = w5.heap.size + 1 := by simp
    clear hb hwant hgot
    gi_wp2_with fail
    generalize w5.alloc (.cells #[.int .i64 0] 3) = w6 at *
    refine ⟨trivial, rfl, (callsIn_wide.2 (KV2.out _ (inK WB HN.out))).mono ?_⟩
    rintro e w7 ⟨gf2, lb2, rfl, eg2, hb, hseq2⟩
    replace WB := bT WB hb
    replace q0 := kc hb q0
    replace q1 := kc hb q1
    replace q2 := kc hb q2
    replace q3 := kc hb q3
    replace r0 := kc hb r0
    have hbox7 := (hb.block _ (Array.getElem?_eq_some_iff.1 HN5.out.2).1).trans HN5.out.2
    have hb57 := bT HN5.out.1 hb
    have hsz7 : w5.heap.size + 1 ≤ w7.heap.size := by have := hb.size; omega
    have hseq := hseq2 (safeN w5.heap.size) w7 (Below.refl _ _) ((safeN_safe w5.heap.size).mono hsz7) (fun b o h1 h2 h3 h4 => ⟨h4, by omega⟩)
    have HBOX := Lib.hid (And.intro hbox7 (And.intro hb57 WB))
    have HSEQ := Lib.hid hseq
    have HEG := Lib.hid eg2
    clear hbox7 hb57 hseq hseq2 hb eg2 eg1
    gi_wp2
    refine range_law (gf := gf2) (lb := lb2) (full := x.comes) (safe := safeN w5.heap.size) rfl HEG.out ((safeN_safe w5.heap.size).mono hsz7) HSEQ.out rfl
      (fun ys Wq => Wq.heap[w5.heap.size]? = some (.cells #[.int .i64 (ys.length : Int)] 3 (0, 0)) ∧ (ys.length = 0 ∨ ys.length < stop) ∧ Kept (safeN w5.heap.size) w7 Wq ∧ Below w.heap.size w Wq)
      (fun c ys Wq => c = .exit 0 ∧ Wq.heap[w5.heap.size]? = some (.cells #[.int .i64 (ys.length : Int)] 3 (0, 0)) ∧ ys.length = max stop 1 ∧ Kept (safeN w5.heap.size) w7 Wq ∧ Below w.heap.size w Wq) ?hI ?hIx ⟨HBOX.out.1, .inl rfl, Kept.refl _, HBOX.out.2.2⟩
      (fun y a' _ => ∃ px cx, y.2 = .slice px y.1.len cx ∧ a' = (actN w.heap.size w1.heap.size w5.heap.size x.k x.n x.s pa x.len ca stop (.slice none 0 0) (.slice pg 0 cg) false undef undef gf1 lb1 gf2 lb2 (.agg #[.int .i64 y.1.k, .int .i64 y.1.n, .string y.1.s, .slice px y.1.len cx]))) ?hAx ?assign ?body ?done ?stop
    case hI =>
      rintro ys A C row ⟨h1, h2, h3, h4⟩ hgr hr
      have hsA := (Array.getElem?_eq_some_iff.1 h1).1
      exact ⟨cells_grown h1 hgr hr, h2, h3.trans (Kept.grown (safeN_safe w5.heap.size) (by omega) hgr fun r e => (hr r e).2), h4.grown hgr h4.size fun k e => by have := (hr k e).1; have := HBOX.out.2.2.size; omega⟩
    case hIx =>
      rintro c ys A C row ⟨h0, h1, h2, h3, h4⟩ hgr hr
      have hsA := (Array.getElem?_eq_some_iff.1 h1).1
      exact ⟨h0, cells_grown h1 hgr hr, h2, h3.trans (Kept.grown (safeN_safe w5.heap.size) (by omega) hgr fun r e => (hr r e).2), h4.grown hgr h4.size fun k e => by have := (hr k e).1; have := HBOX.out.2.2.size; omega⟩
    case hAx =>
      rintro y a' s A C row h hgr hr
      exact h
    case assign =>
      rintro l2 ys y Wq K hj hx hszq hK
      obtain ⟨ty, sy⟩ := y
      obtain ⟨px, cx, h⟩ := hx.plain.slice
      have h : sy = .slice px ty.len cx := h
      subst h
      have H1 := Lib.hid hj
      clear hj hx
      gi_wp2
      exact hK _ _ (Below.refl _ _) H1.out ⟨px, cx, rfl, rfl⟩
    case body =>
      rintro l2 ys y a' Wq ⟨h1, h2, h3, h4⟩ hx hszq hmem ⟨px, cx, hy, rfl⟩ hlen
      obtain ⟨b0, f0⟩ := cell_box h1
      have hbs : Stay w5 Wq := Stay.kept HBOX.out.2.1 (Nat.le_refl _) h3
      have s0 := hbs.cell HR5.out
      obtain ⟨_, hus, _⟩ := lt_of_cell0 HR5.out
      have hsl := (Array.getElem?_eq_some_iff.1 hus).1
      have hne : w.heap.size + 1 ≠ w5.heap.size := by omega
      have hne' : w5.heap.size ≠ w.heap.size + 1 := by omega
      have hcl := comes_le x
      have hkf : ∀ v, KeepsFrom w7.heap.size Wq (Wq.setCell ⟨w5.heap.size, 0, none⟩ v) := fun v => ⟨by simp, fun k o hk ho _ => (heap_setCell_other _ _ _ _ (by show k ≠ w5.heap.size; omega)).trans ho⟩
      have hkp : ∀ v, Kept (safeN w5.heap.size) w7 (Wq.setCell ⟨w5.heap.size, 0, none⟩ v) ∧ Kept (safeN w5.heap.size) Wq (Wq.setCell ⟨w5.heap.size, 0, none⟩ v) := fun v => by
        have h : Kept (safeN w5.heap.size) Wq (Wq.setCell ⟨w5.heap.size, 0, none⟩ v) := ⟨by simp, fun b o hs ho => ⟨(heap_setCell_other _ _ _ _ hs.2).trans ho, hs⟩⟩
        exact ⟨h3.trans h, h⟩
      have hbx : ∀ v, (Wq.setCell ⟨w5.heap.size, 0, none⟩ v).heap[w5.heap.size]? = some (.cells #[v] 3 (0, 0)) := fun v => setCell0_box v h1
      have hbw : ∀ v, Below w.heap.size w (Wq.setCell ⟨w5.heap.size, 0, none⟩ v) := fun v => bS h4 (by show w.heap.size ≤ w5.heap.size; omega) v
      have HF := Lib.hid (And.intro hkf (And.intro hkp (And.intro hbx hbw)))
      have hl1 : (ys ++ [y]).length = ys.length + 1 := by simp
      clear hkf hkp hbx hbw hus hbs h1 h3 h4 hx
      unfold actN
      by_cases hge : stop ≤ ys.length + 1
      · have hc : decide ((stop : Int) ≤ (ys.length : Int) + 1) = true := decide_eq_true (by omega)
        gi_wp2
        refine ⟨HF.out.1 _, rfl, ?_, ?_, (HF.out.2.1 _).1, HF.out.2.2.2 _⟩
        · rw [HF.out.2.2.1, hl1]
          rfl
        · rw [hl1]
          omega
      · have hc : decide ((stop : Int) ≤ (ys.length : Int) + 1) = false := decide_eq_false (by omega)
        gi_wp2
        refine ⟨HF.out.1 _, (HF.out.2.1 _).2, ?_, ?_, (HF.out.2.1 _).1, HF.out.2.2.2 _⟩
        · rw [HF.out.2.2.1, hl1]
          rfl
        · rw [hl1]
          omega
    case done =>
      rintro D ys Wq hD hys ⟨h1, h2, h3, h4⟩ hDk
      have hnl : ys.length ≤ x.comes.length ∧ (ys.length = x.comes.length ∨ ys.length = max stop 1) := by
        rw [← hys, List.length_map]
        exact ⟨Nat.le_refl _, .inl rfl⟩
      obtain ⟨b0, f0⟩ := cell_box h1
      have hbs : Stay w5 Wq := Stay.kept HBOX.out.2.1 (Nat.le_refl _) h3
      have s0 := hbs.cell HR5.out
      have hcl := comes_le x
      have HL := Lib.hid (And.intro (HLST.out.1.stay hbs) (HLST.out.2.stay hbs))
      have HWB := Lib.hid h4
      have HDK := Lib.hid hDk
      have hDlt := (Array.getElem?_eq_some_iff.1 hDk).1
      obtain ⟨n, hn⟩ : ∃ n, ys.length = n := ⟨_, rfl⟩
      rw [hn] at b0 hnl
      clear hbs h1 h2 h3 h4 hDk hys hn
      rw [HL0.out] at hnl
      obtain rfl : n = 0 := by have := hnl.1; simpa using this
      have hmx : Tryd.prog.follows .mixedOrders = true := by kernel_rfl
      all_goals gi_wp2
      all_goals (
        gi_loopw [8] (fun vk wr => ∃ i : Nat, vk = .int .i64 i ∧ i ≤ 0 ∧ Below Wq.heap.size Wq wr) (fun vk _ => 0 - (intOf vk).toNat)
        case atStart => exact ⟨0, rfl, Nat.zero_le _, Below.refl _ _⟩
        case round =>
          obtain ⟨i, rfl, hi, hbr⟩ := hrel
          obtain rfl : i = 0 := by omega
          have hbw := bT HWB.out hbr
          have H9 := Lib.hid (And.intro hbw ((hbr.block _ hDlt).trans HDK.out))
          have hsw := hbw.size
          have hDw : w.heap.size ≤ D := by have := HBOX.out.2.2.size; omega
          clear hbr hbw
          gi_wp2
          refine ⟨by simp, .inl ⟨_, _, rfl, run_takeDeferred H9.out.2, ?_⟩⟩
          exact ⟨_, results_tmp rfl _ _ _, rfl, H9.out.1.grown (grownBy_putObj' _ _ _) H9.out.1.size fun k e => by cases e; omega⟩
        )
    case stop =>
      rintro D c ys Wq hD hys ⟨rfl, h1, h2, h3, h4⟩ hDk
      have hnl : ys.length ≤ x.comes.length ∧ (ys.length = x.comes.length ∨ ys.length = max stop 1) := by
        have := hys.length_le
        rw [List.length_map] at this
        exact ⟨this, .inr h2⟩
      obtain ⟨b0, f0⟩ := cell_box h1
      have hbs : Stay w5 Wq := Stay.kept HBOX.out.2.1 (Nat.le_refl _) h3
      have s0 := hbs.cell HR5.out
      have hcl := comes_le x
      have HL := Lib.hid (And.intro (HLST.out.1.stay hbs) (HLST.out.2.stay hbs))
      have HWB := Lib.hid h4
      have HDK := Lib.hid hDk
      have hDlt := (Array.getElem?_eq_some_iff.1 hDk).1
      obtain ⟨n, hn⟩ : ∃ n, ys.length = n := ⟨_, rfl⟩
      rw [hn] at b0 hnl
      clear hbs h1 h2 h3 h4 hDk hys hn
      rw [HL0.out] at hnl
      obtain rfl : n = 0 := by have := hnl.1; simpa using this
      have hmx : Tryd.prog.follows .mixedOrders = true := by kernel_rfl
      all_goals gi_wp2
      all_goals (
        gi_loopw [8] (fun vk wr => ∃ i : Nat, vk = .int .i64 i ∧ i ≤ 0 ∧ Below Wq.heap.size Wq wr) (fun vk _ => 0 - (intOf vk).toNat)
        case atStart => exact ⟨0, rfl, Nat.zero_le _, Below.refl _ _⟩
        case round =>
          obtain ⟨i, rfl, hi, hbr⟩ := hrel
          obtain rfl : i = 0 := by omega
          have hbw := bT HWB.out hbr
          have H9 := Lib.hid (And.intro hbw ((hbr.block _ hDlt).trans HDK.out))
          have hsw := hbw.size
          have hDw : w.heap.size ≤ D := by have := HBOX.out.2.2.size; omega
          clear hbr hbw
          gi_wp2
          refine ⟨by simp, .inl ⟨_, _, rfl, run_takeDeferred H9.out.2, ?_⟩⟩
          exact ⟨_, results_tmp rfl _ _ _, rfl, H9.out.1.grown (grownBy_putObj' _ _ _) H9.out.1.size fun k e => by cases e; omega⟩
        )
  | true =>
    have hL : x.comes = VT.partsM 3 x := by unfold VT.comes; rw [hok]; rfl
    gi_wp2_with fail
    refine ⟨trivial, rfl, (callsIn_wide.2 (KP.out hok _ _ (inK WB HN.out) (Below.refl _ _))).mono ?_⟩
    rintro e w3a ⟨wv, rfl, hrow, hb⟩
    rw [← hL] at hrow
    obtain ⟨pw, cw, rfl, hwant⟩ := rowP_lst hrow hb
    replace WB := bT WB hb
    replace q0 := kc hb q0
    replace q1 := kc hb q1
    replace q2 := kc hb q2
    replace q3 := kc hb q3
    replace r0 := kc hb r0
    have HWANT3 := Lib.hid hwant
    clear hb hwant hrow
    have hszw := WB.size
    have HL0 := Lib.hid hL
    clear hL
    gi_wp2_with fail
    refine ⟨trivial, rfl, (callsIn_wide.2 (KV2.out _ (inK WB HN.out))).mono ?_⟩
    rintro e w4 ⟨gf1, lb1, rfl, eg1, hb, hseq1⟩
    replace WB := bT WB hb
    replace q0 := kc hb q0
    replace q1 := kc hb q1
    replace q2 := kc hb q2
    replace q3 := kc hb q3
    replace r0 := kc hb r0
    have HWANT4 := Lib.hid (HWANT3.out.stay (Stay.below hb))
    clear hb
    gi_wp2_with fail
    refine ⟨trivial, rfl, (callsIn_wide.2 (collect_c x gf1 lb1 eg1 _ w4 w4 (Below.refl _ _) hseq1)).mono ?_⟩
    rintro e w5 ⟨ov, q, rfl, hq, hrow, hqi, hb⟩
    have hql : q.length = x.comes.length := by
      have h : q.length = x.comes.length := by rw [← hq, List.length_map]
      first | exact h | (rw [h, HL0.out]; rfl)
    rw [hql] at hrow
    obtain ⟨pg, cg, rfl, hgot⟩ := own_lst hrow hqi
    rw [hq] at hgot
    replace WB := bT WB hb
    replace q0 := kc hb q0
    replace q1 := kc hb q1
    replace q2 := kc hb q2
    replace q3 := kc hb q3
    replace r0 := kc hb r0
    have hwant := HWANT4.out.stay (Stay.below hb)
    have HQ := Lib.hid hq
    clear hb hrow hqi hseq1 hq hql
    have HR5 := Lib.hid r0
    have hb : Below w5.heap.size w5 (w5.alloc (.cells #[.int .i64 0] 3)) := bA (Below.refl _ _) _
    replace WB := bT WB hb
    replace q0 := kc hb q0
    replace q1 := kc hb q1
    replace q2 := kc hb q2
    replace q3 := kc hb q3
    replace r0 := kc hb r0
    have HN5 := Lib.hid (And.intro hb (World.alloc_heap_new w5 (.cells #[.int .i64 0] 3)))
    have HLST := Lib.hid (And.intro hwant hgot)
    have hsz5 : (w5.alloc (.cells #[.int .i64 0] 3)).heap.size = w5.heap.size + 1 := by simp
    clear hb hwant hgot
    gi_wp2_with fail
    generalize w5.alloc (.cells #[.int .i64 0] 3) = w6 at *
    refine ⟨trivial, rfl, (callsIn_wide.2 (KV2.out _ (inK WB HN.out))).mono ?_⟩
    rintro e w7 ⟨gf2, lb2, rfl, eg2, hb, hseq2⟩
    replace WB := bT WB hb
    replace q0 := kc hb q0
    replace q1 := kc hb q1
    replace q2 := kc hb q2
    replace q3 := kc hb q3
    replace r0 := kc hb r0
    have hbox7 := (hb.block _ (Array.getElem?_eq_some_iff.1 HN5.out.2).1).trans HN5.out.2
    have hb57 := bT HN5.out.1 hb
    have hsz7 : w5.heap.size + 1 ≤ w7.heap.size := by have := hb.size; omega
    have hseq := hseq2 (safeN w5.heap.size) w7 (Below.refl _ _) ((safeN_safe w5.heap.size).mono hsz7) (fun b o h1 h2 h3 h4 => ⟨h4, by omega⟩)
    have HBOX := Lib.hid (And.intro hbox7 (And.intro hb57 WB))
    have HSEQ := Lib.hid hseq
    have HEG := Lib.hid eg2
    clear hbox7 hb57 hseq hseq2 hb eg2 eg1
    gi_wp2
    refine range_law (gf := gf2) (lb := lb2) (full := x.comes) (safe := safeN w5.heap.size) rfl HEG.out ((safeN_safe w5.heap.size).mono hsz7) HSEQ.out rfl
      (fun ys Wq => Wq.heap[w5.heap.size]? = some (.cells #[.int .i64 (ys.length : Int)] 3 (0, 0)) ∧ (ys.length = 0 ∨ ys.length < stop) ∧ Kept (safeN w5.heap.size) w7 Wq ∧ Below w.heap.size w Wq)
      (fun c ys Wq => c = .exit 0 ∧ Wq.heap[w5.heap.size]? = some (.cells #[.int .i64 (ys.length : Int)] 3 (0, 0)) ∧ ys.length = max stop 1 ∧ Kept (safeN w5.heap.size) w7 Wq ∧ Below w.heap.size w Wq) ?hI ?hIx ⟨HBOX.out.1, .inl rfl, Kept.refl _, HBOX.out.2.2⟩
      (fun y a' _ => ∃ px cx, y.2 = .slice px y.1.len cx ∧ a' = (actN w.heap.size w1.heap.size w5.heap.size x.k x.n x.s pa x.len ca stop (.slice pw x.comes.length cw) (.slice pg x.comes.length cg) true (.agg #[.int .i64 x.k, .int .i64 x.n, .string x.s, .slice pa x.len ca]) (.slice pw x.comes.length cw) gf1 lb1 gf2 lb2 (.agg #[.int .i64 y.1.k, .int .i64 y.1.n, .string y.1.s, .slice px y.1.len cx]))) ?hAx ?assign ?body ?done ?stop
    case hI =>
      rintro ys A C row ⟨h1, h2, h3, h4⟩ hgr hr
      have hsA := (Array.getElem?_eq_some_iff.1 h1).1
      exact ⟨cells_grown h1 hgr hr, h2, h3.trans (Kept.grown (safeN_safe w5.heap.size) (by omega) hgr fun r e => (hr r e).2), h4.grown hgr h4.size fun k e => by have := (hr k e).1; have := HBOX.out.2.2.size; omega⟩
    case hIx =>
      rintro c ys A C row ⟨h0, h1, h2, h3, h4⟩ hgr hr
      have hsA := (Array.getElem?_eq_some_iff.1 h1).1
      exact ⟨h0, cells_grown h1 hgr hr, h2, h3.trans (Kept.grown (safeN_safe w5.heap.size) (by omega) hgr fun r e => (hr r e).2), h4.grown hgr h4.size fun k e => by have := (hr k e).1; have := HBOX.out.2.2.size; omega⟩
    case hAx =>
      rintro y a' s A C row h hgr hr
      exact h
    case assign =>
      rintro l2 ys y Wq K hj hx hszq hK
      obtain ⟨ty, sy⟩ := y
      obtain ⟨px, cx, h⟩ := hx.plain.slice
      have h : sy = .slice px ty.len cx := h
      subst h
      have H1 := Lib.hid hj
      clear hj hx
      gi_wp2
      exact hK _ _ (Below.refl _ _) H1.out ⟨px, cx, rfl, rfl⟩
    case body =>
      rintro l2 ys y a' Wq ⟨h1, h2, h3, h4⟩ hx hszq hmem ⟨px, cx, hy, rfl⟩ hlen
      obtain ⟨b0, f0⟩ := cell_box h1
      have hbs : Stay w5 Wq := Stay.kept HBOX.out.2.1 (Nat.le_refl _) h3
      have s0 := hbs.cell HR5.out
      obtain ⟨_, hus, _⟩ := lt_of_cell0 HR5.out
      have hsl := (Array.getElem?_eq_some_iff.1 hus).1
      have hne : w.heap.size + 1 ≠ w5.heap.size := by omega
      have hne' : w5.heap.size ≠ w.heap.size + 1 := by omega
      have hcl := comes_le x
      have hkf : ∀ v, KeepsFrom w7.heap.size Wq (Wq.setCell ⟨w5.heap.size, 0, none⟩ v) := fun v => ⟨by simp, fun k o hk ho _ => (heap_setCell_other _ _ _ _ (by show k ≠ w5.heap.size; omega)).trans ho⟩
      have hkp : ∀ v, Kept (safeN w5.heap.size) w7 (Wq.setCell ⟨w5.heap.size, 0, none⟩ v) ∧ Kept (safeN w5.heap.size) Wq (Wq.setCell ⟨w5.heap.size, 0, none⟩ v) := fun v => by
        have h : Kept (safeN w5.heap.size) Wq (Wq.setCell ⟨w5.heap.size, 0, none⟩ v) := ⟨by simp, fun b o hs ho => ⟨(heap_setCell_other _ _ _ _ hs.2).trans ho, hs⟩⟩
        exact ⟨h3.trans h, h⟩
      have hbx : ∀ v, (Wq.setCell ⟨w5.heap.size, 0, none⟩ v).heap[w5.heap.size]? = some (.cells #[v] 3 (0, 0)) := fun v => setCell0_box v h1
      have hbw : ∀ v, Below w.heap.size w (Wq.setCell ⟨w5.heap.size, 0, none⟩ v) := fun v => bS h4 (by show w.heap.size ≤ w5.heap.size; omega) v
      have HF := Lib.hid (And.intro hkf (And.intro hkp (And.intro hbx hbw)))
      have hl1 : (ys ++ [y]).length = ys.length + 1 := by simp
      clear hkf hkp hbx hbw hus hbs h1 h3 h4 hx
      unfold actN
      by_cases hge : stop ≤ ys.length + 1
      · have hc : decide ((stop : Int) ≤ (ys.length : Int) + 1) = true := decide_eq_true (by omega)
        gi_wp2
        refine ⟨HF.out.1 _, rfl, ?_, ?_, (HF.out.2.1 _).1, HF.out.2.2.2 _⟩
        · rw [HF.out.2.2.1, hl1]
          rfl
        · rw [hl1]
          omega
      · have hc : decide ((stop : Int) ≤ (ys.length : Int) + 1) = false := decide_eq_false (by omega)
        gi_wp2
        refine ⟨HF.out.1 _, (HF.out.2.1 _).2, ?_, ?_, (HF.out.2.1 _).1, HF.out.2.2.2 _⟩
        · rw [HF.out.2.2.1, hl1]
          rfl
        · rw [hl1]
          omega
    case done =>
      rintro D ys Wq hD hys ⟨h1, h2, h3, h4⟩ hDk
      have hnl : ys.length ≤ x.comes.length ∧ (ys.length = x.comes.length ∨ ys.length = max stop 1) := by
        rw [← hys, List.length_map]
        exact ⟨Nat.le_refl _, .inl rfl⟩
      obtain ⟨b0, f0⟩ := cell_box h1
      have hbs : Stay w5 Wq := Stay.kept HBOX.out.2.1 (Nat.le_refl _) h3
      have s0 := hbs.cell HR5.out
      have hcl := comes_le x
      have HL := Lib.hid (And.intro (HLST.out.1.stay hbs) (HLST.out.2.stay hbs))
      have HWB := Lib.hid h4
      have HDK := Lib.hid hDk
      have hDlt := (Array.getElem?_eq_some_iff.1 hDk).1
      obtain ⟨n, hn⟩ : ∃ n, ys.length = n := ⟨_, rfl⟩
      rw [hn] at b0 hnl
      clear hbs h1 h2 h3 h4 hDk hys hn
      generalize hN : x.comes.length = N at *
      have hgt : decide ((N : Int) < (n : Int)) = false := decide_eq_false (by omega)
      have hgt2 : decide (N < n) = false := decide_eq_false (by omega)
      have hmq : n = N ∨ ((n : Int) != max (stop : Int) 1) = false := by
        rcases hnl.2 with h | h
        · exact .inl h
        · right
          simp
          omega
      have hmx : Tryd.prog.follows .mixedOrders = true := by kernel_rfl
      rcases hmq with hmq | hmq
      all_goals try (
        have hlx : decide ((n : Int) < (N : Int)) = false := decide_eq_false (by omega)
        have hlx2 : decide (n < N) = false := decide_eq_false (by omega)
        have hlx3 : ¬ n < N := by omega
        clear hmq)
      all_goals gi_wp2
      all_goals (
        gi_loopw [8] (fun vk wr => ∃ i : Nat, vk = .int .i64 i ∧ i ≤ N ∧ Below Wq.heap.size Wq wr) (fun vk _ => N - (intOf vk).toNat)
        case atStart => exact ⟨0, rfl, Nat.zero_le _, Below.refl _ _⟩
        case round =>
          obtain ⟨i, rfl, hi, hbr⟩ := hrel
          by_cases hlt : i < N
          · obtain ⟨ps, hp1, hp2⟩ := (HL.out.1.stay (Stay.below hbr)).all
            obtain ⟨qs, hq1, hq2⟩ := (HL.out.2.stay (Stay.below hbr)).all
            have hpl : ps.length = N := by rw [← hN, ← hp1, List.length_map]
            have hqll : qs.length = N := by rw [← hN, ← hq1, List.length_map]
            obtain ⟨y, hy⟩ : ∃ y, ps[i]? = some y := ⟨ps[i]'(by omega), List.getElem?_eq_getElem (by omega)⟩
            obtain ⟨z, hz⟩ : ∃ z, qs[i]? = some z := ⟨qs[i]'(by omega), List.getElem?_eq_getElem (by omega)⟩
            have hyz : y.1 = z.1 := by
              have := congrArg (fun l : List VT => l[i]?) (hp1.trans hq1.symm)
              simpa [hy, hz] using this
            obtain ⟨hyi, g1, rfl, c0, c1, c2, c3⟩ := hp2 i y hy
            obtain ⟨hzi, g2, rfl, d0, d1, d2, d3⟩ := hq2 i z hz
            obtain ⟨ty, sy⟩ := y
            obtain ⟨tz, sz⟩ := z
            have hyz : ty = tz := hyz
            subst hyz
            obtain ⟨px, cx, h⟩ := hyi.slice
            have h : sy = .slice px ty.len cx := h
            subst h
            obtain ⟨pz, cz, h⟩ := hzi.slice
            have h : sz = .slice pz ty.len cz := h
            subst h
            have hkr := fun w h h' => rsameV_c ty ty (.slice pz ty.len cz) (.slice px ty.len cx) w h h'
            rw [VT.sameB_refl] at hkr
            have KR := Lib.hid hkr
            have HY := Lib.hid hyi
            have HZ := Lib.hid hzi
            have HBR := Lib.hid hbr
            have hcn : decide ((i : Int) < (N : Int)) = true := decide_eq_true (by omega)
            clear hkr hyi hzi hbr hp1 hp2 hq1 hq2 hpl hqll hy hz
            unfold VT.val at KR
            dsimp only at c0 c1 c2 c3 d0 d1 d2 d3
            gi_wp2_with fail
            refine wpIn_mono (Q := NoPanic _) ?_ NoPanic.imp
            (first | gi_region_with_o (
              refine ⟨trivial, rfl, ?_⟩
              gi_at_call 10
              refine (callsIn_wide.2 (KR.out _ (inK (by first | exact Below.refl _ _ | exact Below.drew (Below.refl _ _)) HZ.out) (inK (by first | exact Below.refl _ _ | exact Below.drew (Below.refl _ _)) HY.out))).mono ?_
              rintro e w8 ⟨rfl, hb⟩) | fail)
            all_goals refine NoPanic.normal ?_
            all_goals gi_wp2
            all_goals go_roundw
            all_goals (first
              | (case rel => exact ⟨i + 1, by go_num, by omega, bT HBR.out (by first | exact hb | exact (Below.drew (Below.refl _ _)).trans hb)⟩)
              | (case measure => simp [intOf]; omega)
              | (case rel => exact ⟨_, _, _, _, _, _, _, _, _, _, _, _, _, _, _, _, _, _, ⟨i + 1, by go_num, by omega, bT HBR.out (by first | exact hb | exact (Below.drew (Below.refl _ _)).trans hb)⟩, rfl⟩)
              | trace_state)
          · have hcn : decide ((i : Int) < (N : Int)) = false := decide_eq_false (by omega)
            have hbw := bT HWB.out hbr
            have H9 := Lib.hid (And.intro hbw ((hbr.block _ hDlt).trans HDK.out))
            have hsw := hbw.size
            have hDw : w.heap.size ≤ D := by have := HBOX.out.2.2.size; omega
            clear hbr hbw
            gi_wp2
            refine ⟨by simp, .inl ⟨_, _, rfl, run_takeDeferred H9.out.2, ?_⟩⟩
            exact ⟨_, results_tmp rfl _ _ _, rfl, H9.out.1.grown (grownBy_putObj' _ _ _) H9.out.1.size fun k e => by cases e; omega⟩
        )
    case stop =>
      rintro D c ys Wq hD hys ⟨rfl, h1, h2, h3, h4⟩ hDk
      have hnl : ys.length ≤ x.comes.length ∧ (ys.length = x.comes.length ∨ ys.length = max stop 1) := by
        have := hys.length_le
        rw [List.length_map] at this
        exact ⟨this, .inr h2⟩
      obtain ⟨b0, f0⟩ := cell_box h1
      have hbs : Stay w5 Wq := Stay.kept HBOX.out.2.1 (Nat.le_refl _) h3
      have s0 := hbs.cell HR5.out
      have hcl := comes_le x
      have HL := Lib.hid (And.intro (HLST.out.1.stay hbs) (HLST.out.2.stay hbs))
      have HWB := Lib.hid h4
      have HDK := Lib.hid hDk
      have hDlt := (Array.getElem?_eq_some_iff.1 hDk).1
      obtain ⟨n, hn⟩ : ∃ n, ys.length = n := ⟨_, rfl⟩
      rw [hn] at b0 hnl
      clear hbs h1 h2 h3 h4 hDk hys hn
      generalize hN : x.comes.length = N at *
      have hgt : decide ((N : Int) < (n : Int)) = false := decide_eq_false (by omega)
      have hgt2 : decide (N < n) = false := decide_eq_false (by omega)
      have hmq : n = N ∨ ((n : Int) != max (stop : Int) 1) = false := by
        rcases hnl.2 with h | h
        · exact .inl h
        · right
          simp
          omega
      have hmx : Tryd.prog.follows .mixedOrders = true := by kernel_rfl
      rcases hmq with hmq | hmq
      all_goals try (
        have hlx : decide ((n : Int) < (N : Int)) = false := decide_eq_false (by omega)
        have hlx2 : decide (n < N) = false := decide_eq_false (by omega)
        have hlx3 : ¬ n < N := by omega
        clear hmq)
      all_goals gi_wp2
      all_goals (
        gi_loopw [8] (fun vk wr => ∃ i : Nat, vk = .int .i64 i ∧ i ≤ N ∧ Below Wq.heap.size Wq wr) (fun vk _ => N - (intOf vk).toNat)
        case atStart => exact ⟨0, rfl, Nat.zero_le _, Below.refl _ _⟩
        case round =>
          obtain ⟨i, rfl, hi, hbr⟩ := hrel
          by_cases hlt : i < N
          · obtain ⟨ps, hp1, hp2⟩ := (HL.out.1.stay (Stay.below hbr)).all
            obtain ⟨qs, hq1, hq2⟩ := (HL.out.2.stay (Stay.below hbr)).all
            have hpl : ps.length = N := by rw [← hN, ← hp1, List.length_map]
            have hqll : qs.length = N := by rw [← hN, ← hq1, List.length_map]
            obtain ⟨y, hy⟩ : ∃ y, ps[i]? = some y := ⟨ps[i]'(by omega), List.getElem?_eq_getElem (by omega)⟩
            obtain ⟨z, hz⟩ : ∃ z, qs[i]? = some z := ⟨qs[i]'(by omega), List.getElem?_eq_getElem (by omega)⟩
            have hyz : y.1 = z.1 := by
              have := congrArg (fun l : List VT => l[i]?) (hp1.trans hq1.symm)
              simpa [hy, hz] using this
            obtain ⟨hyi, g1, rfl, c0, c1, c2, c3⟩ := hp2 i y hy
            obtain ⟨hzi, g2, rfl, d0, d1, d2, d3⟩ := hq2 i z hz
            obtain ⟨ty, sy⟩ := y
            obtain ⟨tz, sz⟩ := z
            have hyz : ty = tz := hyz
            subst hyz
            obtain ⟨px, cx, h⟩ := hyi.slice
            have h : sy = .slice px ty.len cx := h
            subst h
            obtain ⟨pz, cz, h⟩ := hzi.slice
            have h : sz = .slice pz ty.len cz := h
            subst h
            have hkr := fun w h h' => rsameV_c ty ty (.slice pz ty.len cz) (.slice px ty.len cx) w h h'
            rw [VT.sameB_refl] at hkr
            have KR := Lib.hid hkr
            have HY := Lib.hid hyi
            have HZ := Lib.hid hzi
            have HBR := Lib.hid hbr
            have hcn : decide ((i : Int) < (N : Int)) = true := decide_eq_true (by omega)
            clear hkr hyi hzi hbr hp1 hp2 hq1 hq2 hpl hqll hy hz
            unfold VT.val at KR
            dsimp only at c0 c1 c2 c3 d0 d1 d2 d3
            gi_wp2_with fail
            refine wpIn_mono (Q := NoPanic _) ?_ NoPanic.imp
            (first | gi_region_with_o (
              refine ⟨trivial, rfl, ?_⟩
              gi_at_call 10
              refine (callsIn_wide.2 (KR.out _ (inK (by first | exact Below.refl _ _ | exact Below.drew (Below.refl _ _)) HZ.out) (inK (by first | exact Below.refl _ _ | exact Below.drew (Below.refl _ _)) HY.out))).mono ?_
              rintro e w8 ⟨rfl, hb⟩) | fail)
            all_goals refine NoPanic.normal ?_
            all_goals gi_wp2
            all_goals go_roundw
            all_goals (first
              | (case rel => exact ⟨i + 1, by go_num, by omega, bT HBR.out (by first | exact hb | exact (Below.drew (Below.refl _ _)).trans hb)⟩)
              | (case measure => simp [intOf]; omega)
              | (case rel => exact ⟨_, _, _, _, _, _, _, _, _, _, _, _, _, _, _, _, _, _, ⟨i + 1, by go_num, by omega, bT HBR.out (by first | exact hb | exact (Below.drew (Below.refl _ _)).trans hb)⟩, rfl⟩)
              | trace_state)
          · have hcn : decide ((i : Int) < (N : Int)) = false := decide_eq_false (by omega)
            have hbw := bT HWB.out hbr
            have H9 := Lib.hid (And.intro hbw ((hbr.block _ hDlt).trans HDK.out))
            have hsw := hbw.size
            have hDw : w.heap.size ≤ D := by have := HBOX.out.2.2.size; omega
            clear hbr hbw
            gi_wp2
            refine ⟨by simp, .inl ⟨_, _, rfl, run_takeDeferred H9.out.2, ?_⟩⟩
            exact ⟨_, results_tmp rfl _ _ _, rfl, H9.out.1.grown (grownBy_putObj' _ _ _) H9.out.1.size fun k e => by cases e; omega⟩
        )
end Go.Proofs.YtbgpipdbnjoeeaaDoor
