/-
  heap's New, Len, Get, Del, Min, Pop over this seat's translation. Conditions: those that each theorem states.
-/
import Derived.Test.YtngeinmpnjfhfaaHpTake
namespace Go.Proofs.Ytngeinmpnjfhfaa
open Go.RowKit Go.Shelf Go.Lib Go.Sort Hp Go.Maps

/-- What a key stands by. -/
def getE (es : List It) (k : Int) : Int × Bool := match es.find? (fun x => x.1 == k) with
  | some x => (x.2, true)
  | none => (0, false)
theorem getE_in {es : List It} (hd : Dist es) {x : It} (hx : x ∈ es) : getE es x.1 = (x.2, true) := by
  unfold getE
  cases hf : es.find? (fun y => y.1 == x.1) with
  | none =>
    rw [List.find?_eq_none] at hf
    have := hf x hx
    simp at this
  | some y =>
    have h1 := List.find?_some hf
    have h2 := List.mem_of_find?_eq_some hf
    obtain ⟨i, hi, e1⟩ := mem_g.1 hx
    obtain ⟨j, hj, e2⟩ := mem_g.1 h2
    have := hd i j hi hj (by rw [e1, e2]; exact (eq_of_beq h1).symm)
    rw [← e1, ← e2, this]
theorem getE_out {es : List It} {k : Int} (h : ∀ x ∈ es, x.1 ≠ k) : getE es k = (0, false) := by
  unfold getE
  rw [List.find?_eq_none.2 fun x hx => by simpa using h x hx]
theorem getE_perm {es fs : List It} (hd : Dist es) (h : es.Perm fs) (k : Int) : getE es k = getE fs k := by
  by_cases hc : ∃ x ∈ es, x.1 = k
  · obtain ⟨x, hx, rfl⟩ := hc
    rw [getE_in hd hx, getE_in (keys_perm h hd) (h.mem_iff.1 hx)]
  · rw [getE_out fun x hx e => hc ⟨x, hx, e⟩, getE_out fun x hx e => hc ⟨x, h.mem_iff.2 hx, e⟩]
theorem sans_out {es : List It} {k : Int} (h : ∀ x ∈ es, x.1 ≠ k) : sans es k = es := by
  rw [List.filter_eq_self]
  intro x hx
  simpa using h x hx

set_option maxHeartbeats 1000000 in
theorem new_c (w : World) : Calls Try.prog 9 #[.func (.func 10) #[] #[]] w fun e w' => Below w.heap.size w w' ∧ ∃ hb mb, e = .returned (.pointer (some ⟨hb, 0, none⟩)) ∧ HeapS w' hb (.slice none 0 0) mb [] ∧ w.heap.size ≤ hb ∧ w.heap.size ≤ mb := by
  have hnil : ∀ w : World, (binOp BinOp.eql 26 (.func (.func 10) #[] #[]) .nilFunc).run Try.prog w = .ok (.bool false) w := fun _ => by kernel_rfl
  have hmm := @run_makeMap Try.prog
  have hB : Below w.heap.size w ((w.alloc (.map #[] 0)).alloc (.cells #[.func (.func 10) #[] #[], .slice none 0 0, .map (some w.heap.size)] 63)) := bA' (bA' (Below.refl _ _) (Nat.le_refl _) _) (by simp) _
  have hS : HeapS ((w.alloc (.map #[] 0)).alloc (.cells #[.func (.func 10) #[] #[], .slice none 0 0, .map (some w.heap.size)] 63)) (w.heap.size + 1) (.slice none 0 0) w.heap.size [] := by
    refine ⟨?_, World.ownsRow_nil _ _ _ _, ⟨.map [], fun _ => none, (World.ownsMap_made w _ _ _).alloc _, ?_, ⟨fun i hi => absurd hi (Nat.not_lt_zero _), fun _ _ => rfl⟩⟩, fun i _ hi => absurd hi (Nat.not_lt_zero _), fun x hx => by cases hx⟩
    · have := World.alloc_heap_new (w.alloc (.map #[] 0)) (.cells #[.func (.func 10) #[] #[], .slice none 0 0, .map (some w.heap.size)] 63)
      rwa [World.size_alloc] at this
    · intro x
      exact ⟨(fun i hi => by cases hi), (fun _ => rfl)⟩
  have HB := Lib.hid (And.intro hB hS)
  clear hB hS
  go_enter Try.func9, Try.ntmps9
  go_wp2
  go_ret
  exact ⟨HB.out.1, _, _, rfl, HB.out.2, by omega, Nat.le_refl _⟩

set_option maxHeartbeats 1000000 in
theorem newNil_c (w : World) : Calls Try.prog 9 #[.nilFunc] w fun e w' => e = .returned (.pointer none) ∧ w' = w := by
  have hnil : ∀ w : World, (binOp BinOp.eql 26 .nilFunc .nilFunc).run Try.prog w = .ok (.bool true) w := fun _ => by kernel_rfl
  go_enter Try.func9, Try.ntmps9
  go_wp2
  go_ret
  exact ⟨rfl, rfl⟩

set_option maxHeartbeats 1000000 in
theorem len_c (hb mb : Nat) (sv : Value) (es : List It) (w : World) (h : HeapS w hb sv mb es) : Calls Try.prog 12 #[.pointer (some ⟨hb, 0, none⟩)] w fun e w' => e = .returned (.int .i64 es.length) ∧ w = w' := by
  obtain ⟨p, cap, rfl, _⟩ := h.slice
  obtain ⟨_, c1, _⟩ := cell_three h.box
  clear h
  go_enter Try.func12, Try.ntmps12
  go_wp2
  go_ret
  exact ⟨rfl, rfl⟩
set_option maxHeartbeats 1000000 in
theorem lenNil_c (w : World) : Calls Try.prog 12 #[.pointer none] w fun e w' => e = .returned (.int .i64 0) ∧ w = w' := by
  go_enter Try.func12, Try.ntmps12
  go_wp2
  go_ret
  exact ⟨rfl, rfl⟩

/-- What find answers of a heap. -/
theorem find_h (hb mb : Nat) (k : Int) (sv : Value) (es : List It) (w : World) (h : HeapS w hb sv mb es) (hk : W64 k) :
    ∃ r : Nat × Bool, (Calls Try.prog 29 #[.pointer (some ⟨hb, 0, none⟩), .int .i64 k] w fun e w' => e = .returned (.tuple #[.int .i64 r.1, .bool r.2]) ∧ Below w.heap.size w w') ∧
      ((r.2 = true ∧ r.1 < es.length ∧ (Hp.g es r.1).1 = k) ∨ (r.2 = false ∧ r.1 = es.length ∧ ∀ x ∈ es, x.1 ≠ k)) := by
  obtain ⟨p, cap, rfl, _⟩ := h.slice
  obtain ⟨D, m, o1, o2, o3⟩ := h.tab
  refine ⟨found m es.length k, find_c hb mb es.length cap es.length k _ p D m w h.box o1 o2 hk, ?_⟩
  unfold found
  cases hm : m k with
  | some i => exact .inl ⟨rfl, (o3.some hm).1, (o3.some hm).2⟩
  | none =>
    refine .inr ⟨rfl, rfl, fun x hx e => ?_⟩
    obtain ⟨i, hi, rfl⟩ := mem_g.1 hx
    have := o3.here i hi
    rw [e, hm] at this
    cases this

set_option maxHeartbeats 4000000 in
set_option maxRecDepth 100000 in
theorem get_c (hb mb : Nat) (k : Int) (sv : Value) (es : List It) (w : World) (h : HeapS w hb sv mb es) (hk : W64 k) :
    Calls Try.prog 13 #[.pointer (some ⟨hb, 0, none⟩), .int .i64 k] w fun e w' => e = .returned (.tuple #[.int .i64 (getE es k).1, .bool (getE es k).2]) ∧ Below w.heap.size w w' := by
  obtain ⟨⟨a, b⟩, KF, hr⟩ := find_h hb mb k sv es w h hk
  obtain ⟨p, cap, rfl, hp⟩ := h.slice
  have HH := Lib.hid h
  rcases hr with ⟨hb1, ha, hka⟩ | ⟨hb1, ha, hno⟩
  · simp only at hb1 ha hka
    subst hb1
    have hg := getE_in h.dist (mem_g.2 ⟨a, ha, rfl⟩)
    rw [hka] at hg
    rw [hg]
    obtain ⟨gb, rfl⟩ := hp (by omega)
    obtain ⟨n, hn⟩ : ∃ n, es.length = n := ⟨_, rfl⟩
    have haz : (a : Int) < (n : Int) := by omega
    have HA := Lib.hid (And.intro ha hn)
    clear h ha hka hg hn hp
    go_enter Try.func13, Try.ntmps13
    go_wp2_with fail
    refine KF.mono ?_
    rintro e w1 ⟨rfl, hb1⟩
    have h1 := HH.out.below hb1
    obtain ⟨_, c1, _⟩ := cell_three h1.box
    have hrow : RowIs It.cells 2 33 gb es.length cap w1 es := ⟨rfl, h1.row⟩
    obtain ⟨a1, a2, _, _⟩ := hrow.cells HA.out.1
    rw [HA.out.2] at c1
    have HB := Lib.hid hb1
    clear h1 hrow hb1 KF a1
    go_wp2
    refine bodyPost_ret (results_tmp2 rfl _ _ _) rfl ?_
    exact ⟨rfl, HB.out⟩
  · simp only at hb1 ha
    subst hb1
    rw [getE_out hno]
    clear h hno ha hp
    go_enter Try.func13, Try.ntmps13
    go_wp2_with fail
    refine KF.mono ?_
    rintro e w1 ⟨rfl, hb1⟩
    have HB := Lib.hid hb1
    clear hb1 KF
    go_wp2
    refine bodyPost_ret (results_tmp2 rfl _ _ _) rfl ?_
    exact ⟨rfl, HB.out⟩

set_option maxHeartbeats 4000000 in
set_option maxRecDepth 100000 in
theorem del_c (hb mb : Nat) (k : Int) (sv : Value) (es : List It) (w : World) (h : HeapS w hb sv mb es) (hk : W64 k) (hlen : es.length ≤ 1000000) :
    Calls Try.prog 20 #[.pointer (some ⟨hb, 0, none⟩), .int .i64 k] w fun e w' => e = .returned (.bool (getE es k).2) ∧ ∃ sv' es', HeapS w' hb sv' mb es' ∧ es'.Perm (sans es k) ∧ sv'.ownBlock = sv.ownBlock ∧ TouchH hb mb sv.ownBlock w w' := by
  obtain ⟨⟨a, b⟩, KF, hr⟩ := find_h hb mb k sv es w h hk
  have HH := Lib.hid h
  rcases hr with ⟨hb1, ha, hka⟩ | ⟨hb1, ha, hno⟩
  · simp only at hb1 ha hka
    subst hb1
    have hg := getE_in h.dist (mem_g.2 ⟨a, ha, rfl⟩)
    rw [hka] at hg
    rw [hg]
    have hs := sans_of (take_ok ha h.ord h.dist).2.2.1 h.dist
    rw [hka] at hs
    have HA := Lib.hid (And.intro ha (And.intro hs hlen))
    clear h ha hka hg hs hlen
    go_enter Try.func20, Try.ntmps20
    go_wp2_with fail
    refine KF.mono ?_
    rintro e w1 ⟨rfl, hb1⟩
    have KT := take_c hb mb a sv es w1 (HH.out.below hb1) HA.out.1 HA.out.2.2
    have HB := Lib.hid hb1
    clear hb1 KF
    go_wp2_with fail
    refine KT.mono ?_
    rintro e w2 ⟨rfl, sv', q1, q2, q3⟩
    have HQ := Lib.hid (And.intro q1 (And.intro q2 q3))
    clear q1 q2 q3 KT
    go_wp2
    go_ret
    exact ⟨rfl, sv', _, HQ.out.1, HA.out.2.1, HQ.out.2.1, (TouchH.below HB.out).trans HQ.out.2.2 (.inl rfl)⟩
  · simp only at hb1 ha
    subst hb1
    rw [getE_out hno]
    have HA := Lib.hid (sans_out hno)
    clear h hno ha hlen
    go_enter Try.func20, Try.ntmps20
    go_wp2_with fail
    refine KF.mono ?_
    rintro e w1 ⟨rfl, hb1⟩
    have HB := Lib.hid hb1
    clear hb1 KF
    go_wp2
    go_ret
    exact ⟨rfl, sv, es, HH.out.below HB.out, by rw [HA.out], rfl, .below HB.out⟩

set_option maxHeartbeats 4000000 in
set_option maxRecDepth 100000 in
theorem min_c (hb mb : Nat) (sv : Value) (es : List It) (w : World) (h : HeapS w hb sv mb es) :
    Calls Try.prog 23 #[.pointer (some ⟨hb, 0, none⟩)] w fun e w' => e = .returned (.tuple #[.agg #[.int .i64 (Hp.g es 0).1, .int .i64 (Hp.g es 0).2], .bool (decide (0 < es.length))]) ∧ Below w.heap.size w w' := by
  obtain ⟨p, cap, hsv, hp⟩ := h.slice
  have hB := bA' (Below.refl w.heap.size w) (Nat.le_refl _) (.cells #[.int .i64 0, .int .i64 0] 33)
  have h1 := h.below hB
  have KL := len_c hb mb sv es _ h1
  subst hsv
  obtain ⟨_, c1, _⟩ := cell_three h1.box
  by_cases hn : es.length = 0
  · rw [hn] at KL
    have hes : es = [] := List.eq_nil_of_length_eq_zero hn
    subst hes
    have HB := Lib.hid hB
    clear h h1 hB hp hn c1
    go_enter Try.func23, Try.ntmps23
    go_wp2_with fail
    refine KL.mono ?_
    rintro e w2 ⟨rfl, rfl⟩
    go_wp2
    exact bodyPost_ret (v := .tuple #[.agg #[.int .i64 0, .int .i64 0], .bool false]) (by simp [results, Try.results23, go_sem]) rfl ⟨rfl, HB.out⟩
  · obtain ⟨gb, rfl⟩ := hp (by omega)
    have hrow : RowIs It.cells 2 33 gb es.length cap _ es := ⟨rfl, h1.row⟩
    obtain ⟨a1, a2, _, _⟩ := hrow.cells (i := 0) (by omega)
    simp only [Nat.zero_mul, Nat.zero_add] at a1 a2
    obtain ⟨x, hx⟩ : ∃ x, Hp.g es 0 = x := ⟨_, rfl⟩
    rw [hx] at a1 a2 ⊢
    obtain ⟨n, hn2⟩ : ∃ n, es.length = n := ⟨_, rfl⟩
    rw [hn2] at hn c1 KL ⊢
    have hz : ((n : Int) == 0) = false := by rw [beq_eq_false_iff_ne]; omega
    have hz2 : ¬ (n : Int) = 0 := by omega
    have hz3 : (0 : Int) < (n : Int) := by omega
    have hz4 : 0 < n := by omega
    have hpos : decide (0 < n) = true := decide_eq_true hz4
    rw [hpos]
    have hB2 : Below w.heap.size w (w.alloc (.cells #[.int .i64 x.1, .int .i64 x.2] 33)) := bA' (Below.refl w.heap.size w) (Nat.le_refl _) _
    have HB := Lib.hid hB2
    clear h h1 hB hB2 hp hn hrow hx hn2 hpos
    go_enter Try.func23, Try.ntmps23
    go_wp2_with fail
    refine KL.mono ?_
    rintro e w2 ⟨rfl, rfl⟩
    go_wp2
    exact bodyPost_ret (v := .tuple #[.agg #[.int .i64 x.1, .int .i64 x.2], .bool true]) (by simp [results, Try.results23, go_sem]) rfl ⟨rfl, HB.out⟩

set_option maxHeartbeats 4000000 in
set_option maxRecDepth 100000 in
theorem pop_c (hb mb : Nat) (sv : Value) (es : List It) (w : World) (h : HeapS w hb sv mb es) (hlen : es.length ≤ 1000000) :
    Calls Try.prog 15 #[.pointer (some ⟨hb, 0, none⟩)] w fun e w' => e = .returned (.tuple #[.agg #[.int .i64 (Hp.g es 0).1, .int .i64 (Hp.g es 0).2], .bool (decide (0 < es.length))]) ∧
      ∃ sv' es', HeapS w' hb sv' mb es' ∧ (if 0 < es.length then es.Perm (Hp.g es 0 :: es') else es' = es) ∧ sv'.ownBlock = sv.ownBlock ∧ TouchH hb mb sv.ownBlock w w' := by
  have hB := bA' (Below.refl w.heap.size w) (Nat.le_refl _) (.cells #[.int .i64 0, .int .i64 0] 33)
  have h1 := h.below hB
  have KM := min_c hb mb sv es _ h1
  obtain ⟨x, hx⟩ : ∃ x, Hp.g es 0 = x := ⟨_, rfl⟩
  rw [hx] at KM ⊢
  have HH := Lib.hid (And.intro h1 hB)
  have hlt := h.lt
  by_cases hn : 0 < es.length
  · have hd : decide (0 < es.length) = true := decide_eq_true hn
    rw [hd] at KM ⊢
    simp only [if_pos hn]
    have HA := Lib.hid (And.intro hn (And.intro hx (And.intro hlen (And.intro h.ord (And.intro h.dist hlt)))))
    clear h h1 hB hn hd hx hlen hlt
    go_enter Try.func15, Try.ntmps15
    go_wp2_with fail
    refine KM.mono ?_
    rintro e w1 ⟨rfl, hb1⟩
    obtain ⟨hn, hx, hlen, ho, hd, hlt⟩ := HA.out
    have hb2 : Below w1.heap.size w1 (w1.alloc (.cells #[.int .i64 x.1, .int .i64 x.2] 33)) := bA' (Below.refl _ _) (Nat.le_refl _) _
    have h2 := (HH.out.1.below hb1).below hb2
    have KT := take_c hb mb 0 sv es _ h2 hn hlen
    have hr1 : w.heap.size < w1.heap.size := by have := hb1.size; rw [World.size_alloc] at this; omega
    have e1 : (w1.alloc (.cells #[.int .i64 x.1, .int .i64 x.2] 33)).heap[w1.heap.size]? = some (.cells #[.int .i64 x.1, .int .i64 x.2] 33 (0, 0)) := World.alloc_heap_new w1 _
    have e2 : (w1.alloc (.cells #[.int .i64 x.1, .int .i64 x.2] 33)).heap[w.heap.size]? = some (.cells #[.int .i64 0, .int .i64 0] 33 (0, 0)) := (Below.heap_alloc _ _ _ hr1).trans ((hb1.block w.heap.size (by simp)).trans (World.alloc_heap_new w _))
    have HB := Lib.hid (And.intro hb1 (And.intro hb2 (And.intro e1 (And.intro e2 hr1))))
    clear hn hx hlen ho hd hlt hb1 hb2 h2 hr1 e1 e2 KM
    go_wp2_with fail
    refine KT.mono ?_
    rintro e w2 ⟨rfl, sv', q1, q2, q3⟩
    obtain ⟨hn, hx, hlen, ho, hd, hlt⟩ := HA.out
    obtain ⟨hb1, hb2, e1, e2, hr1⟩ := HB.out
    have hsl : ∀ g, sv.ownBlock = some g → g < w.heap.size := hlt.2.2
    have f1 := (q3.block w1.heap.size (by simp) (by omega) (by omega) (fun e => by have := hsl _ e.symm; omega)).trans e1
    have f2 := (q3.block w.heap.size (by simp; omega) (by omega) (by omega) (fun e => by have := hsl _ e.symm; omega)).trans e2
    obtain ⟨a1, a2, _⟩ := cell_two f1
    obtain ⟨b1, b2, b3⟩ := cell_two f2
    have b4 : w2.frozen? ⟨w.heap.size, 0, none⟩ = false := frozen_of_row _ _ _ _ _ f2
    have g1 := heap_setCell_same _ w.heap.size 1 _ _ (.int .i64 x.2) (heap_setCell_same w2 w.heap.size 0 _ _ (.int .i64 x.1) f2)
    obtain ⟨d1, d2, _⟩ := cell_two g1
    have HQ := Lib.hid (And.intro q1 (And.intro q2 q3))
    clear hn hx hlen ho hd hlt hb1 hb2 e1 e2 hr1 q1 q2 q3 KT f1 f2 g1 hsl
    go_wp2
    refine bodyPost_ret (v := .tuple #[.agg #[.int .i64 x.1, .int .i64 x.2], .bool true]) (by simp [results, Try.results15, go_sem, d1, d2]) rfl ⟨rfl, ?_⟩
    obtain ⟨hn, hx, hlen, ho, hd, hlt⟩ := HA.out
    obtain ⟨hb1, hb2, _, _, hr1⟩ := HB.out
    obtain ⟨q1, q2, q3⟩ := HQ.out
    have hsl : ∀ g, sv'.ownBlock = some g → g < w.heap.size := fun g e => hlt.2.2 g (by rw [← q2]; exact e)
    have hh : ∀ k, k ≠ w.heap.size → ((w2.setCell ⟨w.heap.size, 0, none⟩ (.int .i64 x.1)).setCell ⟨w.heap.size, 1, none⟩ (.int .i64 x.2)).heap[k]? = w2.heap[k]? := fun k hk => by
      rw [heap_setCell_other _ ⟨w.heap.size, 1, none⟩ k _ hk, heap_setCell_other _ ⟨w.heap.size, 0, none⟩ k _ hk]
    have hbw : Below w.heap.size w (w1.alloc (.cells #[.int .i64 x.1, .int .i64 x.2] 33)) := bT2 (bT' HH.out.2 hb1 (by simp)) hb2
    refine ⟨sv', taken es 0, q1.same (hh _ (by omega)) (hh _ (by omega)) (fun g e => hh _ (by have := hsl g e; omega)), by rw [← hx]; exact (take_ok hn ho hd).2.2.1, q2, ?_⟩
    have ht := (TouchH.below (hb := hb) (mb := mb) (row := sv.ownBlock) hbw).trans q3 (.inl rfl)
    exact ⟨ht.os, ht.tape, ht.output, by simpa using ht.size, fun k hk h1 h2 h3 => (hh k (by omega)).trans (ht.block k hk h1 h2 h3)⟩
  · have hd : decide (0 < es.length) = false := decide_eq_false hn
    rw [hd] at KM ⊢
    simp only [if_neg hn]
    have hes : es = [] := List.eq_nil_of_length_eq_zero (by omega)
    subst hes
    obtain rfl : x = (0, 0) := hx.symm
    have HA := Lib.hid (And.intro h hlt)
    clear h h1 hB hn hd hlen hlt
    go_enter Try.func15, Try.ntmps15
    go_wp2_with fail
    refine KM.mono ?_
    rintro e w1 ⟨rfl, hb1⟩
    have hb2 : Below w1.heap.size w1 (w1.alloc (.cells #[.int .i64 0, .int .i64 0] 33)) := bA' (Below.refl _ _) (Nat.le_refl _) _
    have hr1 : w.heap.size < w1.heap.size := by have := hb1.size; rw [World.size_alloc] at this; omega
    have f2 : (w1.alloc (.cells #[.int .i64 0, .int .i64 0] 33)).heap[w.heap.size]? = some (.cells #[.int .i64 0, .int .i64 0] 33 (0, 0)) := (Below.heap_alloc _ _ _ hr1).trans ((hb1.block w.heap.size (by simp)).trans (World.alloc_heap_new w _))
    obtain ⟨b1, b2, b3⟩ := cell_two f2
    have b4 := frozen_of_row _ w.heap.size 0 _ _ f2
    have g1 := heap_setCell_same _ w.heap.size 1 _ _ (.int .i64 0) (heap_setCell_same _ w.heap.size 0 _ _ (.int .i64 0) f2)
    obtain ⟨d1, d2, _⟩ := cell_two g1
    have HB := Lib.hid (And.intro hb1 (And.intro hb2 hr1))
    clear hb1 hb2 hr1 f2 g1 KM
    go_wp2
    refine bodyPost_ret (v := .tuple #[.agg #[.int .i64 0, .int .i64 0], .bool false]) (by simp [results, Try.results15, go_sem, d1, d2]) rfl ⟨rfl, ?_⟩
    obtain ⟨hb1, hb2, hr1⟩ := HB.out
    have hbw : Below w.heap.size w (w1.alloc (.cells #[.int .i64 0, .int .i64 0] 33)) := bT2 (bT' HH.out.2 hb1 (by simp)) hb2
    have hbz := (hbw.setCell (p := ⟨w.heap.size, 0, none⟩) (Nat.le_refl _) (.int .i64 0)).setCell (p := ⟨w.heap.size, 1, none⟩) (Nat.le_refl _) (.int .i64 0)
    exact ⟨sv, [], HA.out.1.below hbz, rfl, rfl, .below hbz⟩
end Go.Proofs.Ytngeinmpnjfhfaa
