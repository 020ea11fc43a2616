/-
  track's New, Len, From, All over this seat's translation: the entries from a stamp on, as they are when it is gone over. Conditions: those that each theorem states.
-/
import Derived.Test.YtibphmddepfgjaaT7B
namespace Go.Proofs.Ytibphmddepfgjaa.Tr
open Go.RowKit Go.Shelf Go.Lib Go.Sort
attribute [local go_sem] Oper.semAt_some

theorem infoEn : (Try.prog.info? 71).map (fun i => (i.zero, i.size, i.bytes)) = some (some (.agg #[.int .i64 0, .int .i64 0, .int .i64 0, .int .i64 0]), 4, 32) := by kernel_rfl
theorem FlatE.drop {W : World} {p : Option Addr} {L : List En} {cap : Nat} (h : FlatE W p L) {n : Nat} (hn : n ≤ L.length) (hc : L.length ≤ cap) : FlatE W (if cap = n then p else p.map (fun a => a.add (n * 4))) (L.drop n) := by
  by_cases h0 : L.drop n = []
  · exact .inl h0
  · have hlt : n < L.length := by
      refine Nat.lt_of_not_le fun h1 => h0 ?_
      exact List.drop_eq_nil_of_le h1
    rw [if_neg (by omega)]
    rcases h with rfl | ⟨g, off, rfl, h⟩
    · simp at hlt
    · refine .inr ⟨g, off + n * 4, by simp [addE], fun j u hu => ?_⟩
      rw [Nat.add_assoc]
      refine h _ u ?_
      rw [← _root_.Go.Proofs.Ytibphmddepfgjaa.flat_drop cE_len, List.getElem?_drop] at hu
      exact hu
theorem from_drop {L : List En} {s : Sp} (h : Rise L) (hs : s.R = true) : fromL L s = L.drop (nb L s) := by
  have h2 := less_split h hs
  unfold fromL nb
  rw [if_pos hs]
  calc levL L s ++ moreL L s = (lessL L s ++ (levL L s ++ moreL L s)).drop (lessL L s).length := by simp
    _ = L.drop (lessL L s).length := by rw [← h2]

theorem appendNewE (q : Option Addr) (c : Nat) (ys : List En) (w : World) (hy : FlatE w q ys) (hlen : ys.length ≤ 2000000) :
    ∃ pa ca W', (Builtin.append_ #[64, 64] 64 #[.slice (some ⟨w.heap.size, 0, none⟩) 0 0, .slice q ys.length c]).run Try.prog (w.alloc (.cells #[] 71)) = .ok (.slice pa ys.length ca) W' ∧ Below w.heap.size w W' ∧
      (0 < ys.length → ∃ ga cur, pa = some ⟨ga, 0, none⟩ ∧ w.heap.size ≤ ga ∧ W'.heap[ga]? = some (.cells cur 71 (0, 0)) ∧ ∀ (j : Nat) (u : Value), (ys.flatMap cE)[j]? = some u → cur[j]? = some u) := by
  obtain ⟨i0, hi0, hz0, hz1, hz2⟩ := info_parts infoEn
  have hb1 : Below w.heap.size w (w.alloc (.cells #[] 71)) := bA' (Below.refl _ _) (Nat.le_refl _) _
  have hown : (w.alloc (.cells #[] 71)).ownsRow w.heap.size 71 4 (.slice (some ⟨w.heap.size, 0, none⟩) 0 0) 0 [] := ⟨rfl, .inr ⟨w.heap.size, 0, #[], rfl, Nat.le_refl _, World.alloc_heap_new w _, Nat.le_refl _, Nat.zero_le _, rfl, rfl⟩⟩
  by_cases h0 : ys = []
  · subst h0
    exact ⟨some ⟨w.heap.size, 0, none⟩, 0, _, run_append_zero (P := Try.prog) _ 64 64 71 i0 4 w.heap.size Try.underlying64 hi0 _ 0 _ hown q c, hb1, fun h => absurd h (Nat.lt_irrefl _)⟩
  · rcases hy with h | ⟨gl, off, rfl, hc⟩
    · exact absurd h h0
    · obtain ⟨v', W', hr, ho, hg, hnil⟩ := run_append_own (P := Try.prog) (w.alloc (.cells #[] 71)) w.heap.size 64 64 71 i0 (.agg #[.int .i64 0, .int .i64 0, .int .i64 0, .int .i64 0]) 4 32 Try.underlying64 hi0 hz0 hz1 hz2 rfl (by decide) _ 0 [] hown ⟨gl, off, none⟩ ys.length c (ys.flatMap cE) (flat_len ys) (fun j u hu => by
        rw [addE]
        exact kc' hb1 (hc j u hu)) (fun u hu => by
        obtain ⟨x, _, hx⟩ := List.mem_flatMap.1 hu
        exact cE_one x u hx) (by unfold maxLen; omega) (by omega) hb1.size
      simp only [Nat.zero_add, List.nil_append] at ho
      rcases id ho.2 with ⟨e, _⟩ | ⟨g, cap, cur, rfl, hB, h1, h2, h3, h4, h5⟩
      · exact absurd (hnil.1 e).1 (by simp)
      · refine ⟨some ⟨g, 0, none⟩, cap, W', hr, hb1.grown hg hb1.size (fun k e => by simp [Value.ownBlock] at e; omega), fun _ => ⟨g, cur, rfl, hB, h1, fun j u hu => ?_⟩⟩
        rw [← h5, List.getElem?_take] at hu
        split at hu
        · simpa using hu
        · cases hu

set_option maxHeartbeats 2000000 in
set_option maxRecDepth 100000 in
theorem clone_c (p : Option Addr) (cap : Nat) (ys : List En) (w : World) (hy : FlatE w p ys) (hlen : ys.length ≤ 2000000) :
    Calls Try.prog 39 #[.slice p ys.length cap] w fun e w' => Below w.heap.size w w' ∧ ∃ pa ca, e = .returned (.slice pa ys.length ca) ∧ (0 < ys.length → ∃ ga cur, pa = some ⟨ga, 0, none⟩ ∧ w.heap.size ≤ ga ∧ w'.heap[ga]? = some (.cells cur 71 (0, 0)) ∧ ∀ (j : Nat) (u : Value), (ys.flatMap cE)[j]? = some u → cur[j]? = some u) := by
  cases p with
  | none =>
    obtain rfl : ys = [] := by
      rcases hy with h | ⟨gl, off, h, _⟩
      · exact h
      · cases h
    have hnil : ∀ w : World, (binOp BinOp.eql 64 (.slice none 0 cap) (.slice none 0 0)).run Try.prog w = .ok (.bool true) w := fun _ => by kernel_rfl
    have hnil2 : ∀ w : World, (binOp BinOp.eql 64 (.slice none ([] : List En).length cap) (.slice none 0 0)).run Try.prog w = .ok (.bool true) w := hnil
    have HB := Lib.hid (Below.refl w.heap.size w)
    clear hy
    go_enter Try.func39, Try.ntmps39
    go_wp2
    go_ret
    exact ⟨HB.out, none, 0, rfl, fun h => absurd h (Nat.lt_irrefl _)⟩
  | some a =>
    obtain ⟨pa, ca, W', hrun, hb, hpos⟩ := appendNewE (some a) cap ys w hy hlen
    have hnil : ∀ w : World, (binOp BinOp.eql 64 (.slice (some a) ys.length cap) (.slice none 0 0)).run Try.prog w = .ok (.bool false) w := fun _ => by kernel_rfl
    have HR := Lib.hid (And.intro hb hpos)
    clear hy hb hpos
    go_enter Try.func39, Try.ntmps39
    go_wp2_with (first
      | (at_builtin; refine wpList_append_run rfl (.tmp 5) (.tmp 6) 64 rfl rfl rfl hrun ?_))
    go_ret
    exact ⟨HR.out.1, pa, ca, rfl, HR.out.2⟩

set_option maxHeartbeats 1000000 in
theorem newT_c (k : Nat) (hk : 1 ≤ k ∧ k ≤ 1048576) (w : World) : Calls Try.prog 9 #[.int .i64 (k : Int)] w fun e w' =>
    e = .returned (.tuple #[.pointer (some ⟨w.heap.size, 0, none⟩), .int .i64 0]) ∧ TkS w' w.heap.size k [] none (.slice none 0 0) ∧ Below w.heap.size w w' := by
  have hd1 : decide ((k : Int) < 1) = false := decide_eq_false (by omega)
  have hd2 : decide ((k : Int) > 1048576) = false := decide_eq_false (by omega)
  have hB : Below w.heap.size w (w.alloc (.cells #[.slice none 0 0, .int .i64 (k : Int)] 66)) := bA' (Below.refl _ _) (Nat.le_refl _) _
  have hS : TkS (w.alloc (.cells #[.slice none 0 0, .int .i64 (k : Int)] 66)) w.heap.size k [] none (.slice none 0 0) :=
    ⟨World.alloc_heap_new w _, .inl ⟨none, rfl, rfl, rfl⟩, ⟨hk.1, hk.2, Nat.zero_le _⟩, Rise.nil, fun e he => by cases he⟩
  have HB := Lib.hid (And.intro hS hB)
  clear hB hS hk
  go_enter Try.func9, Try.ntmps9
  go_wp2
  refine bodyPost_ret (results_tmp2 rfl _ _ _) rfl ?_
  exact ⟨rfl, HB.out⟩
set_option maxHeartbeats 1000000 in
theorem newTNo_c (k : Int) (hk : ¬ (1 ≤ k ∧ k ≤ 1048576)) (w : World) : Calls Try.prog 9 #[.int .i64 k] w fun e w' =>
    e = .returned (.tuple #[.pointer none, .int .i64 1]) ∧ Below w.heap.size w w' := by
  have HB := Lib.hid (Below.refl w.heap.size w)
  by_cases h1 : k < 1
  · have hd1 : decide (k < 1) = true := decide_eq_true h1
    go_enter Try.func9, Try.ntmps9
    go_wp2
    refine bodyPost_ret (results_tmp2 rfl _ _ _) rfl ?_
    exact ⟨rfl, HB.out⟩
  · have hd1 : decide (k < 1) = false := decide_eq_false h1
    have hd2 : decide (k > 1048576) = true := decide_eq_true (by omega)
    go_enter Try.func9, Try.ntmps9
    go_wp2
    refine bodyPost_ret (results_tmp2 rfl _ _ _) rfl ?_
    exact ⟨rfl, HB.out⟩
set_option maxHeartbeats 1000000 in
theorem lenT_c {W : World} {b k : Nat} {L : List En} {G : Option Nat} {v : Value} (h : TkS W b k L G v) : Calls Try.prog 14 #[.pointer (some ⟨b, 0, none⟩)] W fun e w' => e = .returned (.int .i64 (L.length : Int)) ∧ Below W.heap.size W w' := by
  obtain ⟨pv, cv, hv, _, _⟩ := h.ents.slice
  have q1 : W.cell? ⟨b, 0, none⟩ = some (.slice pv L.length cv) := by rw [← hv]; exact (cell_two h.box).1
  have HB := Lib.hid (Below.refl W.heap.size W)
  clear h hv
  go_enter Try.func14, Try.ntmps14
  go_wp2
  go_ret
  exact ⟨rfl, HB.out⟩
set_option maxHeartbeats 1000000 in
theorem lenTNil_c (w : World) : Calls Try.prog 14 #[.pointer none] w fun e w' => e = .returned (.int .i64 0) ∧ Below w.heap.size w w' := by
  have HB := Lib.hid (Below.refl w.heap.size w)
  go_enter Try.func14, Try.ntmps14
  go_wp2
  go_ret
  exact ⟨rfl, HB.out⟩

/-- What From answers. -/
def fromV (n : Nat) : Value := .func (.func 38) #[] #[.pointer (some ⟨n, 0, none⟩), .pointer (some ⟨n + 1, 0, none⟩)]
/-- What From lays. -/
def fromW (p : Option Addr) (s : Sp) (w : World) : World := (w.alloc (.cells #[.pointer p] 28)).alloc (.cells #[.int .i64 s.1, .int .i64 s.2.1, .int .i64 s.2.2] 33)
theorem fromW_lays (p : Option Addr) (s : Sp) (w : World) : Below w.heap.size w (fromW p s w) ∧ (fromW p s w).heap[w.heap.size]? = some (.cells #[.pointer p] 28 (0, 0)) ∧ (fromW p s w).heap[w.heap.size + 1]? = some (.cells #[.int .i64 s.1, .int .i64 s.2.1, .int .i64 s.2.2] 33 (0, 0)) ∧ (fromW p s w).heap.size = w.heap.size + 2 := by
  unfold fromW
  refine ⟨bA' (bA' (Below.refl _ _) (Nat.le_refl _) _) (by simp) _, ?_, ?_, by simp⟩
  · rw [Below.heap_alloc _ _ _ (by simp)]
    exact World.alloc_heap_new w _
  · have := World.alloc_heap_new (w.alloc (.cells #[.pointer p] 28)) (.cells #[.int .i64 s.1, .int .i64 s.2.1, .int .i64 s.2.2] 33)
    rw [World.size_alloc] at this
    exact this
set_option maxHeartbeats 1000000 in
theorem fromf_c (p : Option Addr) (s : Sp) (w : World) : Calls Try.prog 22 #[.pointer p, s.v] w fun e w' => e = .returned (fromV w.heap.size) ∧ w' = fromW p s w := by
  go_enter Try.func22, Try.ntmps22
  go_wp2
  go_ret
  exact ⟨rfl, rfl⟩
set_option maxHeartbeats 1000000 in
theorem allf_c (p : Option Addr) (w : World) : Calls Try.prog 23 #[.pointer p] w fun e w' => e = .returned (fromV w.heap.size) ∧ w' = fromW p (0, 1, 0) w := by
  have KF := Lib.hid (fromf_c p (0, 1, 0) w)
  go_enter Try.func23, Try.ntmps23
  go_wp2_with fail
  refine KF.out.mono ?_
  rintro e w1 ⟨rfl, rfl⟩
  clear KF
  go_wp2
  go_ret
  exact ⟨rfl, rfl⟩
theorem eg_from : ∀ args w, (callFunc 38 args).run Try.prog w = .ok (.enter 38 args) w := enters_of Try.func38 (by kernel_rfl) rfl

set_option maxRecDepth 100000 in
set_option maxHeartbeats 4000000 in
theorem fromNo_seq (p : Option Addr) (Bt Bs : Nat) (s : Sp) (hs : s.I) (hno : (p.isSome && s.R) = false) (ar : Nat → Array Value) (w : World) (hbt : w.heap[Bt]? = some (.cells #[.pointer p] 28 (0, 0))) (hbs : w.heap[Bs]? = some (.cells #[.int .i64 s.1, .int .i64 s.2.1, .int .i64 s.2.2] 33 (0, 0))) :
    SeqP 38 #[.pointer (some ⟨Bt, 0, none⟩), .pointer (some ⟨Bs, 0, none⟩)] 0 ar (fun _ => False) w := by
  intro l J Jx W hW hJ hJx hJin hY h0
  have c0 : W.cell? ⟨Bt, 0, none⟩ = some (.pointer p) := by unfold World.cell?; rw [kbE hbt hW]; rfl
  obtain ⟨s0, s1, s2⟩ := cells3 hbs hW
  have KM := Lib.hid (may_c p s hs W)
  have HJ := Lib.hid h0
  have HN := Lib.hid hno
  clear hY h0 hJ hJx hJin hbt hbs hW hs hno
  refine callsIn_of_wp Try.func38 rfl trivial ?_ rfl
  simp only [Try.ntmps38, List.size_toArray, List.length_cons, List.length_nil, Nat.reduceAdd, Nat.reduceSub, Array.replicate_succ, Array.replicate_zero, List.push_toArray, List.append_toArray, List.nil_append, List.cons_append]
  gi_wp2_with fail
  refine ⟨trivial, rfl, ?_⟩
  refine callsIn_wide.2 (KM.out.mono ?_)
  rintro e w1 ⟨rfl, hb1⟩
  rw [HN.out]
  have H1 := Lib.hid (And.intro (HJ.out w1 hb1) hb1.size)
  clear hb1 KM HJ c0 s0 s1 s2
  gi_wp2
  refine bodyPost_ret (results_none rfl _ _ _) rfl ?_
  exact ⟨⟨_, rfl⟩, w1.heap.size, H1.out.2, .inl H1.out.1⟩
end Go.Proofs.Ytibphmddepfgjaa.Tr
