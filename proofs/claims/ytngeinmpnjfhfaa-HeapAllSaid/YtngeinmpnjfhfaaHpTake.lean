/-
  What a heap looks like in memory, and heap's take over this seat's translation. Conditions: those that each theorem states.
-/
import Derived.Test.YtngeinmpnjfhfaaHpFill
import Derived.Maps.OwnSet
namespace Go.Proofs.Ytngeinmpnjfhfaa
open Go.RowKit Go.Shelf Go.Lib Go.Sort Hp Go.Maps

theorem nodup_le : ∀ (l ks : List Int), l.Nodup → (∀ x ∈ l, x ∈ ks) → l.length ≤ ks.length
  | [], _, _, _ => Nat.zero_le _
  | a :: l, ks, hn, hs => by
    obtain ⟨h1, h2⟩ := List.nodup_cons.1 hn
    have ha : a ∈ ks := hs a (List.mem_cons_self ..)
    have := nodup_le l (ks.erase a) h2 fun x hx => (List.mem_erase_of_ne (fun e => h1 (by rw [← e]; exact hx))).2 (hs x (List.mem_cons_of_mem _ hx))
    rw [List.length_erase_of_mem ha] at this
    have := List.length_pos_of_mem ha
    rw [List.length_cons]
    omega
def keyInt : Lit → Int
  | .int _ x => x
  | _ => 0
theorem keys_int {l : Lit} (h : KeysOf Try.prog 3 l) : l = .int .i64 (keyInt l) := by
  obtain ⟨v, hv⟩ := h
  simp only [keyOf, Try.underlying3] at hv
  cases v <;> simp [mapKey, Try.underlying3] at hv
  obtain ⟨_, rfl⟩ := hv
  rfl
/-- The map holds no more than the table says. -/
theorem own_tight {w : World} {b n : Nat} {D : DataW Unit} {m : Tab} {es : List It} (h : w.ownsMap (H := Unit) Try.prog 3 (plainElem Try.prog 3) b n D) (hI : Is D m) (ht : TabOf es m) : w.ownsMap (H := Unit) Try.prog 3 (plainElem Try.prog 3) b es.length D := by
  obtain ⟨ent, clock, hb, F, hs, rfl⟩ := h
  refine ⟨ent, clock, hb, F, ?_, rfl⟩
  have hk := Maps.fit_keys F
  have ha := Maps.fit_apart keyedI F
  have hlen : (ent.toList.map (WideElems.rg Try.prog 3 (plainElem (H := Unit) Try.prog 3))).length = ent.size := by simp
  generalize ent.toList.map (WideElems.rg Try.prog 3 (plainElem (H := Unit) Try.prog 3)) = R0 at *
  have h1 : ((R0.map Prod.fst).map keyInt).Nodup := by
    rw [List.map_map]
    unfold List.Nodup
    rw [List.pairwise_map]
    refine List.Pairwise.imp_of_mem ?_ ha
    intro p q hp hq hne e
    refine hne ?_
    rw [keys_int (hk p hp), keys_int (hk q hq)]
    exact congrArg _ e
  have h2 := nodup_le _ (es.map Prod.fst) h1 fun x hx => by
    obtain ⟨l, hl, rfl⟩ := List.mem_map.1 hx
    obtain ⟨p, hp, rfl⟩ := List.mem_map.1 hl
    have hkp := keys_int (hk p hp)
    have hhas : Maps.has (DataW.map (R0.foldr DataW.insert [])) (.int .i64 (keyInt p.1)) = true := by
      rw [has_eq, List.any_eq_true]
      refine ⟨p, (Go.WideShapes.sorted_perm R0).mem_iff.2 hp, ?_⟩
      conv => lhs; arg 1; rw [hkp]
      simp [Lit.sameKey]
    cases hm : m (keyInt p.1) with
    | none =>
      rw [(hI _).2 hm] at hhas
      cases hhas
    | some i =>
      obtain ⟨k1, k2⟩ := ht.some hm
      exact List.mem_map.2 ⟨_, mem_g.2 ⟨i, k1, rfl⟩, k2⟩
  simpa [hlen] using h2

/-- A HEAP in block hb, whose row's value is sv and whose map lies in block mb. -/
structure HeapS (W : World) (hb : Nat) (sv : Value) (mb : Nat) (es : List It) : Prop where
  box : W.heap[hb]? = some (.cells #[.func (.func 10) #[] #[], sv, .map (some mb)] 63 (0, 0))
  row : W.ownsRow 0 33 2 sv es.length (es.flatMap It.cells)
  tab : ∃ D m, W.ownsMap (H := Unit) Try.prog 3 (plainElem Try.prog 3) mb es.length D ∧ Is D m ∧ TabOf es m
  ord : Ord es
  wf : ∀ x ∈ es, W64 x.1
theorem HeapS.dist {W : World} {hb : Nat} {sv : Value} {mb : Nat} {es : List It} (h : HeapS W hb sv mb es) : Dist es := by
  obtain ⟨D, m, _, _, ht⟩ := h.tab
  exact ht.dist
theorem HeapS.slice {W : World} {hb : Nat} {sv : Value} {mb : Nat} {es : List It} (h : HeapS W hb sv mb es) : ∃ p cap, sv = .slice p es.length cap ∧ (0 < es.length → ∃ g, p = some ⟨g, 0, none⟩) := by
  rcases id h.row.2 with ⟨rfl, e⟩ | ⟨g, cap, cur, rfl, _⟩
  · exact ⟨none, 0, by rw [e], fun h0 => by omega⟩
  · exact ⟨_, cap, rfl, fun _ => ⟨g, rfl⟩⟩
theorem HeapS.lt {W : World} {hb : Nat} {sv : Value} {mb : Nat} {es : List It} (h : HeapS W hb sv mb es) : hb < W.heap.size ∧ mb < W.heap.size ∧ ∀ g, sv.ownBlock = some g → g < W.heap.size := by
  obtain ⟨D, m, h1, _⟩ := h.tab
  exact ⟨(Array.getElem?_eq_some_iff.1 h.box).1, h1.lt, fun g e => (h.row.lt g e).2⟩
theorem HeapS.apart {W : World} {hb : Nat} {sv : Value} {mb : Nat} {es : List It} (h : HeapS W hb sv mb es) : hb ≠ mb ∧ ∀ g, sv.ownBlock = some g → g ≠ hb ∧ g ≠ mb := by
  obtain ⟨D, m, ⟨ent, clock, h1, _⟩, _⟩ := h.tab
  refine ⟨?_, fun g e => ?_⟩
  · rintro rfl
    rw [h.box] at h1
    simp at h1
  · rcases h.row.2 with ⟨rfl, _⟩ | ⟨g', cap, cur, rfl, _, hg, _⟩
    · cases e
    · obtain rfl : g' = g := by simpa [Value.ownBlock] using e
      refine ⟨?_, ?_⟩
      · rintro rfl
        rw [h.box] at hg
        simp at hg
      · rintro rfl
        rw [h1] at hg
        simp at hg
theorem HeapS.same {W W' : World} {hb : Nat} {sv : Value} {mb : Nat} {es : List It} (h : HeapS W hb sv mb es) (h1 : W'.heap[hb]? = W.heap[hb]?) (h2 : W'.heap[mb]? = W.heap[mb]?) (h3 : ∀ g, sv.ownBlock = some g → W'.heap[g]? = W.heap[g]?) : HeapS W' hb sv mb es := by
  refine ⟨h1.trans h.box, ⟨h.row.1, ?_⟩, ?_, h.ord, h.wf⟩
  · rcases h.row.2 with h4 | ⟨g, cap, cur, e, hB, hg, rest⟩
    · exact .inl h4
    · exact .inr ⟨g, cap, cur, e, hB, (h3 g (by rw [e]; rfl)).trans hg, rest⟩
  · obtain ⟨D, m, ⟨ent, clock, k1, k2⟩, rest⟩ := h.tab
    exact ⟨D, m, ⟨ent, clock, h2.trans k1, k2⟩, rest⟩
theorem HeapS.below {W W' : World} {hb : Nat} {sv : Value} {mb : Nat} {es : List It} (h : HeapS W hb sv mb es) (hB : Below W.heap.size W W') : HeapS W' hb sv mb es :=
  h.same (hB.block _ h.lt.1) (hB.block _ h.lt.2.1) fun g e => hB.block _ (h.lt.2.2 g e)

/-- What a call on a heap leaves alone. -/
structure TouchH (hb mb : Nat) (row : Option Nat) (W W' : World) : Prop where
  os : W'.os = W.os
  tape : W'.tape = W.tape
  output : W'.output = W.output
  size : W.heap.size ≤ W'.heap.size
  block : ∀ k, k < W.heap.size → k ≠ hb → k ≠ mb → some k ≠ row → W'.heap[k]? = W.heap[k]?
theorem TouchH.below {hb mb : Nat} {row : Option Nat} {W W' : World} (h : Below W.heap.size W W') : TouchH hb mb row W W' := ⟨h.os, h.tape, h.output, h.size, fun k hk _ _ _ => h.block k hk⟩
theorem TouchH.below_of {hb mb : Nat} {row : Option Nat} {W W' : World} {B : Nat} (h : TouchH hb mb row W W') (hB : B ≤ W.heap.size) (h1 : B ≤ hb) (h2 : B ≤ mb) (hr : ∀ g, row = some g → B ≤ g) : Below B W W' :=
  ⟨h.os, h.tape, h.output, h.size, fun k hk => h.block k (by omega) (by omega) (by omega) fun e => by have := hr k e.symm; omega⟩
theorem TouchH.of {hb mb : Nat} {row : Option Nat} {W W' : World} {gb : Nat} (h : Touch gb none W W') (hg : gb = hb ∨ some gb = row) : TouchH hb mb row W W' :=
  ⟨h.os, h.tape, h.output, h.size, fun k hk h1 h2 h3 => h.block k hk (fun e => by
    subst e
    rcases hg with e | e
    · exact h1 e
    · exact h3 e) (by simp)⟩
theorem TouchH.grown {hb mb : Nat} {row : Option Nat} {W W' : World} (h : W.grownBy W' (some mb)) : TouchH hb mb row W W' := ⟨h.os, h.tape, h.output, h.size, fun k hk _ h2 _ => h.block k hk (by simpa using h2)⟩
theorem TouchH.trans {hb mb : Nat} {row row' : Option Nat} {A B C : World} (h : TouchH hb mb row A B) (k : TouchH hb mb row' B C) (hr : row' = row ∨ ∀ g, row' = some g → A.heap.size ≤ g) : TouchH hb mb row A C :=
  ⟨k.os.trans h.os, k.tape.trans h.tape, k.output.trans h.output, Nat.le_trans h.size k.size, fun i hi h1 h2 h3 => (k.block i (Nat.lt_of_lt_of_le hi h.size) h1 h2 (by
    rcases hr with e | e
    · rw [e]; exact h3
    · intro e2
      have := e i e2.symm
      omega)).trans (h.block i hi h1 h2 h3)⟩
theorem TouchH.cell {hb mb : Nat} {row : Option Nat} {A B : World} (h : TouchH hb mb row A B) (i : Nat) (v : Value) : TouchH hb mb row A (B.setCell ⟨hb, i, none⟩ v) :=
  ⟨h.os, h.tape, h.output, by simpa using h.size, fun k hk h1 h2 h3 => (heap_setCell_other _ ⟨hb, i, none⟩ k _ h1).trans (h.block k hk h1 h2 h3)⟩

set_option maxHeartbeats 8000000 in
set_option maxRecDepth 100000 in
theorem take_c (hb mb a : Nat) (sv : Value) (es : List It) (w : World) (h : HeapS w hb sv mb es) (ha : a < es.length) (hlen : es.length ≤ 1000000) :
    Calls Try.prog 30 #[.pointer (some ⟨hb, 0, none⟩), .int .i64 a] w fun r w' => r = .returned (.tuple #[]) ∧ ∃ sv', HeapS w' hb sv' mb (taken es a) ∧ sv'.ownBlock = sv.ownBlock ∧ TouchH hb mb sv.ownBlock w w' := by
  have mixed : Try.prog.follows .mixedOrders = true := by kernel_rfl
  obtain ⟨p, cap, rfl, hp⟩ := h.slice
  obtain ⟨gb, rfl⟩ := hp (by omega)
  obtain ⟨hhm, hga⟩ := h.apart
  obtain ⟨hgh, hgm⟩ := hga gb rfl
  obtain ⟨t1, t2, t3, t4, t5⟩ := take_ok ha h.ord h.dist
  obtain ⟨D, m, o1, o2, o3⟩ := h.tab
  have hrow : RowIs It.cells 2 33 gb es.length cap w es := ⟨rfl, h.row⟩
  obtain ⟨c0, c1, c2, _⟩ := cell_three h.box
  obtain ⟨a1, a2, _, _⟩ := hrow.cells ha
  have KF := fill_c hb gb cap a es w c0 hrow ha hlen t1
  obtain ⟨x, hx⟩ : ∃ x, Hp.g es a = x := ⟨_, rfl⟩
  rw [hx] at a1 a2 t3 t5
  obtain ⟨t, ht⟩ : ∃ t, fillTo es a = t := ⟨_, rfl⟩
  obtain ⟨Y, hY⟩ : ∃ Y, fillL es a = Y := ⟨_, rfl⟩
  obtain ⟨Z, hZ⟩ : ∃ Z, taken es a = Z := ⟨_, rfl⟩
  have hYl : Y.length = es.length := by rw [← hY]; exact fillL_len _ _
  have hZY : Z = Y.take (es.length - 1) := by rw [← hZ, ← hY]; rfl
  rw [ht, hY] at KF t5
  rw [ht] at t1
  rw [hY] at t4
  rw [hZ] at t2 t3 t5 ⊢
  obtain ⟨N, hN⟩ : ∃ N, es.length = N := ⟨_, rfl⟩
  obtain ⟨n, hn⟩ : ∃ n, N - 1 = n := ⟨_, rfl⟩
  have hY2 : Z = Y.eraseIdx n := by
    rw [hZY, hN, hn, List.eraseIdx_eq_take_drop_succ, List.drop_eq_nil_of_le (by omega), List.append_nil]
  have hZl : Z.length = n := by rw [hZY, List.length_take]; omega
  have haz : (a : Int) < (N : Int) := by omega
  have hgz : (0 : Nat) < N := by omega
  have r1 : IntKind.i64.wrap ((N : Int) - 1) = (n : Int) := by rw [IntKind.wrap_i64]; omega
  have r2 : IntKind.i64.wrap ((n : Int) + 1) = (N : Int) := by rw [IntKind.wrap_i64]; omega
  have HH := Lib.hid h
  have HT := Lib.hid (And.intro t1 (And.intro t2 (And.intro t3 (And.intro t4 t5))))
  have HO := Lib.hid (And.intro o1 (And.intro o2 o3))
  have HA := Lib.hid (And.intro hhm (And.intro hgh hgm))
  have HL := Lib.hid (And.intro hN (And.intro hn (And.intro hYl (And.intro hY2 (And.intro hZl (And.intro ha hlen))))))
  have hW : W64 x.1 := h.wf x (by rw [← hx]; exact mem_g.2 ⟨a, ha, rfl⟩)
  rw [hN] at c1 KF
  clear h t1 t2 t3 t4 t5 o1 o2 o3 hhm hga hgh hgm hrow hx ht hY hZ hYl hZY hN hn hY2 hZl ha hlen hp
  go_enter Try.func30, Try.ntmps30
  go_wp2_with fail
  refine KF.mono ?_
  rintro e w2 ⟨rfl, q1, q2⟩
  obtain ⟨hhm, hgh, hgm⟩ := HA.out
  obtain ⟨hN, hn, hYl, hY2, hZl, ha, hlen⟩ := HL.out
  have hbox2 : w2.heap[hb]? = _ := (q2.block hb HH.out.lt.1 (Ne.symm hgh) (by simp)).trans HH.out.box
  obtain ⟨o1, o2, o3⟩ := HO.out
  have hown2 : w2.ownsMap (H := Unit) Try.prog 3 (plainElem Try.prog 3) mb es.length D := by
    obtain ⟨ent, clock, k1, k2⟩ := o1
    exact ⟨ent, clock, (q2.block mb HH.out.lt.2.1 (Ne.symm hgm) (by simp)).trans k1, k2⟩
  have q1' : RowIs It.cells 2 33 gb Y.length cap w2 Y := by rw [hYl, hN]; exact q1
  have KM := mark_c hb gb mb cap a t es.length (.func (.func 10) #[] #[]) Y D m w2 (by rw [hbox2, hYl]) q1' (fun i hi => HH.out.wf _ (HT.out.2.2.2.1 i (by omega))) hown2 o2 (by omega) (by have := HT.out.1; omega) (by omega) (by omega)
  have HQ := Lib.hid (And.intro q1' (And.intro q2 hbox2))
  obtain ⟨c0, c1, c2, _⟩ := cell_three hbox2
  rw [hN] at c1
  clear hhm hgh hgm hN hn hYl hY2 hZl ha hlen hbox2 o1 o2 o3 hown2 q1 q1' q2 KF a1 a2
  go_wp2_with fail
  refine KM.mono ?_
  rintro e w3 ⟨rfl, ⟨n3, D3, o1, o2⟩, q3⟩
  obtain ⟨hhm, hgh, hgm⟩ := HA.out
  obtain ⟨hN, hn, hYl, hY2, hZl, ha, hlen⟩ := HL.out
  obtain ⟨q1, q2, hbox2⟩ := HQ.out
  have hbox3 := grown_keep q3 hbox2 hhm
  obtain ⟨cur, k1, _⟩ := q1.whole
  have hrow3 : RowIs It.cells 2 33 gb Y.length cap w3 Y := q1.same cT_len ((grown_keep q3 k1 hgm).trans k1.symm)
  have KD := delete_T gb cap n Y w3 hrow3 (by omega) (by omega)
  rw [show ((n : Int) + 1) = (N : Int) from by omega, hYl, hN, hn, ← hY2] at KD
  have HQ3 := Lib.hid (And.intro hbox3 (And.intro o1 (And.intro o2 q3)))
  obtain ⟨c0, c1, c2, _⟩ := cell_three hbox3
  rw [hN] at c1
  clear hhm hgh hgm hN hn hYl hY2 hZl ha hlen hbox2 hbox3 o1 o2 q1 q2 q3 k1 hrow3 KM
  go_wp2_with fail
  refine KD.mono ?_
  rintro e w4 ⟨rfl, q4, q5⟩
  obtain ⟨hhm, hgh, hgm⟩ := HA.out
  obtain ⟨hbox3, o1, o2, q3⟩ := HQ3.out
  have hlt3 : hb < w3.heap.size := (Array.getElem?_eq_some_iff.1 hbox3).1
  have hbox4 := (q5.block hb hlt3 (Ne.symm hgh) (by simp)).trans hbox3
  have hbox5 := heap_setCell_same w4 hb 1 _ _ (.slice (some ⟨gb, 0, none⟩) n cap) hbox4
  have hown5 : (w4.setCell ⟨hb, 1, none⟩ (.slice (some ⟨gb, 0, none⟩) n cap)).ownsMap (H := Unit) Try.prog 3 (plainElem Try.prog 3) mb n3 D3 := by
    obtain ⟨ent, clock, k1, k2⟩ := o1
    exact ⟨ent, clock, (heap_setCell_other w4 ⟨hb, 1, none⟩ mb _ (Ne.symm hhm)).trans ((q5.block mb (Array.getElem?_eq_some_iff.1 k1).1 (Ne.symm hgm) (by simp)).trans k1), k2⟩
  have hrow5 := q4.same cT_len (heap_setCell_other w4 ⟨hb, 1, none⟩ gb (.slice (some ⟨gb, 0, none⟩) n cap) hgh)
  obtain ⟨c0, c1, c2, f1⟩ := cell_three hbox4
  obtain ⟨d0, d1, d2, _⟩ := cell_three hbox5
  have HQ5 := Lib.hid (And.intro hbox5 (And.intro hrow5 q5))
  clear hhm hgh hgm hbox3 o1 q3 hlt3 hbox4 hbox5 hrow5 q4 q5 KD d0 d1
  go_wp2_with (first | (at_delete; refine wpList_delete_own _ rfl _ _ 61 3 rfl 3 keyedI Try.underlying61 _ mb n3 D3 rfl hown5 _ _ rfl (keyOf_int_mk Try.underlying3 hW) ?_; intro w6 hown6 hturn6))
  clear c0 c1 c2 f1 d2
  go_end0
  obtain ⟨hhm, hgh, hgm⟩ := HA.out
  obtain ⟨hbox5, hrow5, q5⟩ := HQ5.out
  obtain ⟨hbox3, o1, o2, q3⟩ := HQ3.out
  obtain ⟨q1, q2, hbox2⟩ := HQ.out
  obtain ⟨hN, hn, hYl, hY2, hZl, ha, hlen⟩ := HL.out
  obtain ⟨t1, t2, t3, t4, t5⟩ := HT.out
  have hg6 := hturn6.grown
  have htab := t5 m HO.out.2.2
  have hI := o2.del x.1
  refine ⟨rfl, .slice (some ⟨gb, 0, none⟩) n cap, ⟨grown_keep hg6 hbox5 hhm, ?_, ⟨_, _, own_tight hown6 hI htab, hI, htab⟩, t2, fun y hy => HH.out.wf y (t3.mem_iff.2 (List.mem_cons_of_mem _ hy))⟩, rfl, ?_⟩
  · obtain ⟨cur, k1, _⟩ := hrow5.whole
    have := (hrow5.same cT_len ((grown_keep hg6 k1 hgm).trans k1.symm)).row
    rw [hZl]
    exact this
  · exact ((((TouchH.of q2 (.inr rfl)).trans (.grown q3) (.inl rfl)).trans (.of q5 (.inr rfl)) (.inl rfl)).cell 1 _).trans (.grown hg6) (.inl rfl)
end Go.Proofs.Ytngeinmpnjfhfaa
