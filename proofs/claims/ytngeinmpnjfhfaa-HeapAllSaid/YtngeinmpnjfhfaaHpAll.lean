/-
  slices.Clone at entries, and heap's All over this seat's translation: the entries, the least first. Conditions: those that each theorem states.
-/
import Derived.Test.YtngeinmpnjfhfaaHpSeqP
import Derived.Test.YtngeinmpnjfhfaaHpNilC
import Derived.Test.YtngeinmpnjfhfaaHpRef
namespace Go.Proofs.Ytngeinmpnjfhfaa
open Go.RowKit Go.Shelf Go.Lib Go.Sort Hp Go.Maps
attribute [local go_sem] Oper.semAt_some

theorem appendNew (q : Option Addr) (c : Nat) (ys : List It) (w : World) (hy : InList It.cells w q ys) (hlen : ys.length ≤ 1000000) :
    ∃ pa ca W', (Builtin.append_ #[50, 50] 50 #[.slice (some ⟨w.heap.size, 0, none⟩) 0 0, .slice q ys.length c]).run Try.prog (w.alloc (.cells #[] 33)) = .ok (.slice pa ys.length ca) W' ∧ Below w.heap.size w W' ∧
      (0 < ys.length → ∃ ga, pa = some ⟨ga, 0, none⟩ ∧ w.heap.size ≤ ga ∧ RowIs It.cells 2 33 ga ys.length ca W' ys) := by
  obtain ⟨i0, hi0, hz0, hz1, hz2⟩ := info_parts infoIt
  have hb1 : Below w.heap.size w (w.alloc (.cells #[] 33)) := bA' (Below.refl _ _) (Nat.le_refl _) _
  have hown : (w.alloc (.cells #[] 33)).ownsRow w.heap.size 33 2 (.slice (some ⟨w.heap.size, 0, none⟩) 0 0) 0 [] := ⟨rfl, .inr ⟨w.heap.size, 0, #[], rfl, Nat.le_refl _, World.alloc_heap_new w _, Nat.le_refl _, Nat.zero_le _, rfl, rfl⟩⟩
  by_cases h0 : ys = []
  · subst h0
    exact ⟨some ⟨w.heap.size, 0, none⟩, 0, _, run_append_zero (P := Try.prog) _ 50 50 33 i0 2 w.heap.size Try.underlying50 hi0 _ 0 _ hown q c, hb1, fun h => absurd h (Nat.lt_irrefl _)⟩
  · rcases hy with h | ⟨gl, off, rfl, hc⟩
    · exact absurd h h0
    · obtain ⟨v', W', hr, ho, hg, hnil⟩ := run_append_own (P := Try.prog) (w.alloc (.cells #[] 33)) w.heap.size 50 50 33 i0 (.agg #[.int .i64 0, .int .i64 0]) 2 16 Try.underlying50 hi0 hz0 hz1 hz2 rfl (by decide) _ 0 [] hown ⟨gl, off, none⟩ ys.length c (ys.flatMap It.cells) (flat_len cT_len ys) (fun j u hu => by
        have : (⟨gl, off, none⟩ : Addr).add j = ⟨gl, off + j, none⟩ := by unfold Addr.add; split <;> simp_all
        rw [this]
        exact kc' hb1 (hc j u hu)) (fun u hu => by
        obtain ⟨x, _, hx⟩ := List.mem_flatMap.1 hu
        exact cT_one x u hx) (by unfold maxLen; omega) (by omega) hb1.size
      simp only [Nat.zero_add, List.nil_append] at ho
      rcases id ho.2 with ⟨e, _⟩ | ⟨g, cap, cur, rfl, hB, h1, h2, h3, h4, h5⟩
      · exact absurd (hnil.1 e).1 (by simp)
      · exact ⟨some ⟨g, 0, none⟩, cap, W', hr, hb1.grown hg hb1.size (fun k e => by simp [Value.ownBlock] at e; omega), fun _ => ⟨g, rfl, hB, RowIs.of rfl cT_len h1 h2 h3 h4 h5⟩⟩

set_option maxHeartbeats 2000000 in
set_option maxRecDepth 100000 in
theorem clone_c (p : Option Addr) (cap : Nat) (ys : List It) (w : World) (hy : InList It.cells w p ys) (hlen : ys.length ≤ 1000000) :
    Calls Try.prog 37 #[.slice p ys.length cap] w fun e w' => Below w.heap.size w w' ∧ ∃ pa ca, e = .returned (.slice pa ys.length ca) ∧ (0 < ys.length → ∃ ga, pa = some ⟨ga, 0, none⟩ ∧ w.heap.size ≤ ga ∧ RowIs It.cells 2 33 ga ys.length ca w' ys) := by
  cases p with
  | none =>
    obtain rfl : ys = [] := by
      rcases hy with h | ⟨gl, off, h, _⟩
      · exact h
      · cases h
    have hnil : ∀ w : World, (binOp BinOp.eql 50 (.slice none 0 cap) (.slice none 0 0)).run Try.prog w = .ok (.bool true) w := fun _ => by kernel_rfl
    have hnil2 : ∀ w : World, (binOp BinOp.eql 50 (.slice none ([] : List It).length cap) (.slice none 0 0)).run Try.prog w = .ok (.bool true) w := hnil
    have HB := Lib.hid (Below.refl w.heap.size w)
    clear hy
    go_enter Try.func37, Try.ntmps37
    go_wp2
    go_ret
    exact ⟨HB.out, none, 0, rfl, fun h => absurd h (Nat.lt_irrefl _)⟩
  | some a =>
    obtain ⟨pa, ca, W', hrun, hb, hpos⟩ := appendNew (some a) cap ys w hy hlen
    have hnil : ∀ w : World, (binOp BinOp.eql 50 (.slice (some a) ys.length cap) (.slice none 0 0)).run Try.prog w = .ok (.bool false) w := fun _ => by kernel_rfl
    have HR := Lib.hid (And.intro hb hpos)
    clear hy hb hpos
    go_enter Try.func37, Try.ntmps37
    go_wp2_with (first
      | (at_builtin; refine wpList_append_run rfl (.tmp 5) (.tmp 6) 50 rfl rfl rfl hrun ?_))
    go_ret
    exact ⟨HR.out.1, pa, ca, rfl, HR.out.2⟩

theorem RowIs.shorter {gb cap j : Nat} {W : World} {X : List It} (h : RowIs It.cells 2 33 gb X.length cap W X) (hj : j ≤ X.length) : RowIs It.cells 2 33 gb (X.take j).length cap W (X.take j) := by
  obtain ⟨cur, h1, h2, h3, h4, h5⟩ := h.whole
  have hl : (X.take j).length = j := by rw [List.length_take]; omega
  refine RowIs.of rfl cT_len h1 (by omega) h3 h4 ?_
  rw [hl, ← flat_take cT_len, ← h5, List.take_take, Nat.min_eq_left (by omega)]
theorem HeapS.inList {W : World} {hb : Nat} {sv : Value} {mb : Nat} {es : List It} (h : HeapS W hb sv mb es) : ∃ p cap, sv = .slice p es.length cap ∧ InList It.cells W p es := by
  rcases id h.row.2 with ⟨rfl, e⟩ | ⟨g, cap, cur, rfl, _⟩
  · exact ⟨none, 0, by rw [e], .inl (List.eq_nil_of_length_eq_zero e)⟩
  · refine ⟨_, cap, rfl, .inr ⟨g, 0, rfl, fun j u hu => ?_⟩⟩
    have hj := (List.getElem?_eq_some_iff.1 hu).1
    rw [flat_len cT_len] at hj
    rw [Nat.zero_add, h.row.cellAt j hj]
    exact hu
/-- What is left is what is to come. -/
theorem left_step {X : List It} {m : List It} {x : It} (ho : Ord X) (hr : Rising (x :: m)) (hp : X.Perm (x :: m)) (hd : Dist X) : Hp.g X 0 = x ∧ Ord (taken X 0) ∧ (taken X 0).Perm m ∧ fillTo X 0 < X.length := by
  have hl : 0 < X.length := by rw [hp.length_eq, List.length_cons]; omega
  have hg : Hp.g X 0 = x := least_of ho (hp.mem_iff.2 (List.mem_cons_self ..)) fun y hy => by
    rcases List.mem_cons.1 (hp.mem_iff.1 hy) with rfl | hy
    · exact le_refl _
    · exact le_of_lt ((List.pairwise_cons.1 hr).1 y hy)
  obtain ⟨t1, t2, t3, _⟩ := take_ok hl ho hd
  rw [hg] at t3
  exact ⟨hg, t2, (t3.symm.trans hp).cons_inv, t1⟩
theorem rising_drop {m : List It} (h : Rising m) (k : Nat) : Rising (m.drop k) := h.sublist (List.drop_sublist _ _)
def sLen : Value → Nat
  | .slice _ n _ => n
  | _ => 0

/-- Where All stands: k were handed out. -/
structure LeftI (lo hi Bv hb mb ca : Nat) (sv : Value) (pa : Option Addr) (m : List It) (k j : Nat) (X : List It) (W : World) : Prop where
  row : 0 < j → ∃ ga, pa = some ⟨ga, 0, none⟩ ∧ RowIs It.cells 2 33 ga X.length ca W X ∧ lo ≤ ga ∧ ga < hi
  len : X.length = j
  cnt : j + k = m.length
  perm : X.Perm (m.drop k)
  ord : Ord X
  dist : Dist X
  size : hi ≤ W.heap.size
  bv : W.heap[Bv]? = some (.cells #[.pointer (some ⟨hb, 0, none⟩)] 24 (0, 0))
  fn : W.heap[hb]? = some (.cells #[.func (.func 10) #[] #[], sv, .map (some mb)] 63 (0, 0))

set_option maxRecDepth 100000 in
set_option maxHeartbeats 8000000 in
theorem all_seqP (Bv hb mb : Nat) (sv : Value) (es m : List It) (w : World) (hm : Rising m) (hp : es.Perm m) (hn : m.length ≤ 1000)
    (hbox : w.heap[Bv]? = some (.cells #[.pointer (some ⟨hb, 0, none⟩)] 24 (0, 0))) (hh : HeapS w hb sv mb es) :
    SeqP 36 #[.pointer (some ⟨Bv, 0, none⟩)] m.length (fun k => #[.agg #[.int .i64 (Hp.g m k).1, .int .i64 (Hp.g m k).2]]) (fun b => b = Bv ∨ b = hb) w := by
  intro l J Jx W hW hJ hJx hJin hY h0
  have hboxW := (hW.block Bv (Array.getElem?_eq_some_iff.1 hbox).1).trans hbox
  have c0 : W.cell? ⟨Bv, 0, none⟩ = some (.pointer (some ⟨hb, 0, none⟩)) := by unfold World.cell?; rw [hboxW]; rfl
  have hbw : HeapS W hb sv mb es := hh.below hW
  obtain ⟨p, cap, hsv, hl⟩ := hbw.inList
  obtain ⟨d0, d1, d2, _⟩ := cell_three hbw.box
  rw [hsv] at d1
  have KC := Lib.hid (clone_c p cap es W hl (by rw [hp.length_eq]; omega))
  have HY := Lib.hid hY
  have HJ := Lib.hid (And.intro h0 hJin)
  have HH := Lib.hid (And.intro hbw (And.intro hboxW (And.intro hm (And.intro hp hn))))
  clear hY h0 hbw hl hJ hJx hJin hbox hh hW hboxW hm hsv
  refine callsIn_of_wp Try.func36 rfl trivial ?_ rfl
  simp only [Try.ntmps36, List.size_toArray, List.length_cons, List.length_nil, Nat.reduceAdd, Nat.reduceSub, Array.replicate_succ, Array.replicate_zero, List.push_toArray, List.append_toArray, List.nil_append, List.cons_append]
  gi_wp2_with fail
  refine ⟨trivial, rfl, ?_⟩
  refine callsIn_wide.2 (KC.out.mono ?_)
  rintro e w1 ⟨hb1, pa, ca, rfl, hpos⟩
  obtain ⟨hbw, hboxW, hm, hp2, hn2⟩ := HH.out
  have hlt := hbw.lt
  obtain ⟨n, hen⟩ : ∃ n, es.length = n := ⟨_, rfl⟩
  have H1 := Lib.hid (show J w1.heap.size 0 w1 ∧ LeftI W.heap.size w1.heap.size Bv hb mb ca sv pa m 0 n es w1 from
    ⟨HJ.out.1 w1 hb1, ⟨fun h => by
      obtain ⟨ga, e, k1, k2⟩ := hpos (by omega)
      obtain ⟨cur, k3, _⟩ := k2.whole
      exact ⟨ga, e, k2, k1, (Array.getElem?_eq_some_iff.1 k3).1⟩, hen, by rw [← hen, hp2.length_eq, Nat.add_zero], hp2, hbw.ord, hbw.dist, Nat.le_refl _, (hb1.block _ (Array.getElem?_eq_some_iff.1 hboxW).1).trans hboxW, (hb1.block _ hlt.1).trans hbw.box⟩⟩)
  have HLO := Lib.hid hb1.size
  have HRI := Lib.hid (And.intro hm hn2)
  rw [hen]
  obtain ⟨hi, hhi⟩ : ∃ hi, w1.heap.size = hi := ⟨_, rfl⟩
  rw [hhi] at H1 HLO
  clear hbw hboxW hm hp2 hn2 hlt hb1 hpos hen hhi KC c0 d0 d1 d2 HH
  gi_wp2
  gi_loopw [3] (fun v wr => ∃ (k j : Nat) (X : List It), v = .slice pa j ca ∧ Hid (J hi k wr ∧ LeftI W.heap.size hi Bv hb mb ca sv pa m k j X wr)) (fun v _ => sLen v)
  case atStart => exact ⟨0, n, es, rfl, H1.out⟩
  case round =>
    clear H1
    obtain ⟨k, j, X, rfl, HR⟩ := hrel
    by_cases hlt : 0 < j
    · obtain ⟨ga, hpa, hrow, hga1, hga2⟩ := HR.out.2.row hlt
      subst hpa
      obtain ⟨j', hj'⟩ : ∃ j', j - 1 = j' := ⟨_, rfl⟩
      have hd1 : decide ((j : Int) > 0) = true := decide_eq_true (by omega)
      have hd2 : decide (0 < j) = true := decide_eq_true hlt
      have hjz : (0 : Int) < (j : Int) := by omega
      have r1 : IntKind.i64.wrap ((j : Int) - 1) = (j' : Int) := by
        have := HR.out.2.cnt
        have := HRI.out.2
        rw [IntKind.wrap_i64]
        omega
      have hkm : k < m.length := by have := HR.out.2.cnt; omega
      have hdrop : m.drop k = m[k] :: m.drop (k + 1) := List.drop_eq_getElem_cons hkm
      obtain ⟨x, hx⟩ : ∃ x, m[k] = x := ⟨_, rfl⟩
      have hgm : Hp.g m k = x := by rw [g_get hkm, hx]
      have hperm := HR.out.2.perm
      have hri := rising_drop HRI.out.1 k
      rw [hdrop, hx] at hperm hri
      obtain ⟨s1, s2, s3, s4⟩ := left_step HR.out.2.ord hri hperm HR.out.2.dist
      have hXl := HR.out.2.len
      obtain ⟨a1, a2, _, _⟩ := hrow.cells (i := 0) (by omega)
      simp only [Nat.zero_mul, Nat.zero_add] at a1 a2
      rw [s1] at a1 a2
      obtain ⟨cur, q0, _, hq2, _⟩ := hrow.whole
      have hjc : j' ≤ ca := by have := hrow.whole; obtain ⟨_, _, h2, _⟩ := this; omega
      have hjj : j' ≤ j := by omega
      have e0 : wr.cell? ⟨Bv, 0, none⟩ = some (.pointer (some ⟨hb, 0, none⟩)) := by unfold World.cell?; rw [HR.out.2.bv]; rfl
      obtain ⟨fn, tm, asg, bd, hy, hR⟩ := HY.out hi k wr HLO.out HR.out.2.size HR.out.1 hkm
      rw [hgm] at hy
      have HX := Lib.hid (And.intro hrow (And.intro q0 (And.intro hga1 (And.intro hga2 (And.intro s2 (And.intro s3 (And.intro s4 (And.intro hXl (And.intro hj' hdrop)))))))))
      have HT := Lib.hid (show Dist (taken X 0) ∧ (taken X 0).length = j' from by
        refine ⟨?_, by rw [taken_len, hXl, hj']⟩
        have := take_ok (L := X) (a := 0) (by omega) HR.out.2.ord HR.out.2.dist
        exact (dist_cons (keys_perm this.2.2.1 HR.out.2.dist)).1)
      clear hrow q0 hq2 hga1 hga2 s1 s2 s3 s4 hXl hj' hdrop hperm hri hx hgm hlt
      gi_wp2
      refine ⟨rfl, hR.mono ?_⟩
      rintro e W3 (⟨rfl, hj, hkp, _⟩ | ⟨rfl, hjx, _⟩)
      · obtain ⟨hrow, q0, hga1, hga2, s2, s3, s4, hXl, hj', hdrop⟩ := HX.out
        have r3 := hkp.same ga _ (.inr ⟨hga1, hga2⟩) q0 rfl
        have b3 := hkp.same Bv _ (.inl (.inl rfl)) HR.out.2.bv rfl
        have f3 := hkp.same hb _ (.inl (.inr rfl)) HR.out.2.fn rfl
        have hrow3 := hrow.same cT_len (r3.trans q0.symm)
        have KF := fill_c hb ga ca 0 X W3 (cell_three f3).1 hrow3 (by omega) (by have := HR.out.2.cnt; have := HRI.out.2; omega) s4
        rw [hXl] at KF
        have c3 : W3.cell? ⟨Bv, 0, none⟩ = some (.pointer (some ⟨hb, 0, none⟩)) := by unfold World.cell?; rw [b3]; rfl
        have H3 := Lib.hid (And.intro hj (And.intro b3 (And.intro f3 (Nat.le_trans HR.out.2.size hkp.size))))
        clear hj hkp hy hR a1 a2 e0 hrow q0 hga1 hga2 s2 s3 s4 hXl hj' hdrop r3 b3 f3 hrow3
        gi_wp2_with fail
        refine ⟨trivial, rfl, ?_⟩
        refine callsIn_wide.2 (KF.mono ?_)
        rintro e W4 ⟨rfl, q1, q2⟩
        obtain ⟨hj, b3, f3, hsz3⟩ := H3.out
        obtain ⟨hrow, q0, hga1, hga2, s2, s3, s4, hXl, hj', hdrop⟩ := HX.out
        have hgb : Bv ≠ ga := by
          rintro rfl
          have := q0.symm.trans HR.out.2.bv
          simp at this
        have hgh : hb ≠ ga := by
          rintro rfl
          have := q0.symm.trans HR.out.2.fn
          simp at this
        have hin : Inner W.heap.size hi W3 W4 := ⟨q2.os, q2.tape, q2.output, q2.size, fun b hbb hne => q2.block b hbb (fun e => hne (by subst e; exact ⟨hga1, hga2⟩)) (by simp)⟩
        have hrow4 : RowIs It.cells 2 33 ga (fillL X 0).length ca W4 (fillL X 0) := by rw [fillL_len, hXl]; exact q1
        have H4 := Lib.hid (show J hi (k + 1) W4 ∧ LeftI W.heap.size hi Bv hb mb ca sv (some ⟨ga, 0, none⟩) m (k + 1) j' (taken X 0) W4 from
          ⟨HJ.out.2 hi (k + 1) W3 W4 HLO.out hsz3 hj hin, ⟨fun _ => ⟨ga, rfl, hrow4.shorter (by rw [fillL_len]; omega), hga1, hga2⟩, HT.out.2, by have := HR.out.2.cnt; omega, s3, s2, HT.out.1, Nat.le_trans hsz3 q2.size,
            (q2.block Bv (Array.getElem?_eq_some_iff.1 b3).1 hgb (by simp)).trans b3, (q2.block hb (Array.getElem?_eq_some_iff.1 f3).1 hgh (by simp)).trans f3⟩⟩)
        have HJ2 := Lib.hid (show j' < j from by omega)
        clear hj b3 f3 hsz3 hrow q0 hga1 hga2 s2 s3 s4 hXl hj' hdrop hgb hgh hin hrow4 q1 q2 KF c3
        gi_wp2
        go_roundw
        case rel => exact ⟨k + 1, j', taken X 0, rfl, H4⟩
        case measure => exact HJ2.out
      · have H3 := Lib.hid hjx
        clear hjx hy hR a1 a2 e0
        gi_wp2
        refine bodyPost_ret (results_none rfl _ _ _) rfl ?_
        exact ⟨⟨_, rfl⟩, hi, HLO.out, .inr ⟨k + 1, hkm, H3.out⟩⟩
    · obtain rfl : j = 0 := by omega
      have hk : k = m.length := by have := HR.out.2.cnt; omega
      subst hk
      gi_wp2
      go_end0
      exact ⟨⟨_, rfl⟩, hi, HLO.out, .inl HR.out.1⟩
end Go.Proofs.Ytngeinmpnjfhfaa
