/-
  The contract of the given package gavotteref07's Put over this seat's translation; rows of entries appended to each other. Conditions: those that each theorem states.
-/
import Derived.Test.YtibphmddepfgjaaR7A
import Derived.Test.YtibphmddepfgjaaMG
namespace Go.Proofs.Ytibphmddepfgjaa.Tr
open Go.RowKit Go.Shelf Go.Lib Go.Sort

/-- A list of entries in memory, cell by cell. -/
abbrev FlatE (W : World) (p : Option Addr) (L : List En) : Prop := L = [] ∨ ∃ g off, p = some ⟨g, off, none⟩ ∧ ∀ j u, (L.flatMap cE)[j]? = some u → W.cell? ⟨g, off + j, none⟩ = some u
theorem FlatE.keep {W W' : World} {p : Option Addr} {L : List En} (h : FlatE W p L) (hb : Below W.heap.size W W') : FlatE W' p L := by
  rcases h with h | ⟨g, off, e, h⟩
  · exact .inl h
  · exact .inr ⟨g, off, e, fun j u hu => keepc hb (h j u hu)⟩
theorem FlatE.in {W : World} {p : Option Addr} {L : List En} (h : FlatE W p L) : InE W p L := by
  intro i e hi
  rcases h with rfl | ⟨g, off, hp, h⟩
  · simp at hi
  · exact ⟨g, off, hp, h (i * 4 + 0) _ (flat_at hi (j := 0) rfl), by rw [Nat.add_assoc]; exact h (i * 4 + 1) _ (flat_at hi (j := 1) rfl), by rw [Nat.add_assoc]; exact h (i * 4 + 2) _ (flat_at hi (j := 2) rfl), by rw [Nat.add_assoc]; exact h (i * 4 + 3) _ (flat_at hi (j := 3) rfl)⟩
theorem addE (g off m : Nat) : (⟨g, off, none⟩ : Addr).add m = ⟨g, off + m, none⟩ := by
  unfold Addr.add
  by_cases h : m = 0 <;> simp [h]
theorem RowE.form {W : World} {B : Nat} {v : Value} {L : List En} (h : RowE W B v L) : ∃ p cap, v = .slice p L.length cap ∧ FlatE W p L := by
  rcases h.2 with ⟨e, e2⟩ | ⟨g, cap, cur, e, hB, hg, rest⟩
  · refine ⟨none, 0, ?_, .inl ?_⟩
    · rw [e]
      congr 1
      first | exact e2.symm | omega
    · have h1 := h.1
      have : L.length = 0 := by first | exact e2 | omega
      exact List.length_eq_zero_iff.1 this
  · refine ⟨some ⟨g, 0, none⟩, cap, e, ?_⟩
    by_cases h0 : L = []
    · exact .inl h0
    · refine .inr ⟨g, 0, rfl, fun j u hu => ?_⟩
      have hc := h.cells (g := g) (by rw [e]; rfl) j u hu
      rw [addE] at hc
      exact hc
theorem grown_refl (w : World) (row : Option Nat) : w.grownBy w row := ⟨rfl, rfl, rfl, Nat.le_refl _, fun _ _ _ => rfl⟩
theorem cE_one (e : En) : ∀ u ∈ cE e, u.oneCell' = true := by
  intro u hu
  unfold cE at hu
  simp only [List.mem_cons, List.not_mem_nil, or_false] at hu
  rcases hu with rfl | rfl | rfl | rfl <;> rfl
/-- A list appended to a row of one's own. -/
theorem appendE {B : Nat} {v : Value} {M L : List En} {p : Option Addr} (cap : Nat) {w : World} (hown : RowE w B v M) (hL : FlatE w p L) (hB : B ≤ w.heap.size) (hn : M.length + L.length ≤ 10000000) :
    ∃ v' W', (Builtin.append_ #[35, 35] 35 #[v, .slice p L.length cap]).run Try.prog w = .ok v' W' ∧ RowE W' B v' (M ++ L) ∧ w.grownBy W' v.ownBlock ∧ (v'.ownBlock = v.ownBlock ∨ v'.ownBlock = some w.heap.size) := by
  obtain ⟨i0, hi0, hz0, hz1, hz2⟩ := info_parts infoE
  rcases hL with rfl | ⟨g, off, rfl, hc⟩
  · refine ⟨v, w, run_append_zero (P := Try.prog) w 35 35 52 i0 4 B Try.underlying35 hi0 v _ _ hown p cap, ?_, grown_refl w _, .inl rfl⟩
    rw [List.append_nil]
    exact hown
  · obtain ⟨v', W', hr, h2, h3, h4, h5⟩ := run_append_own_at (P := Try.prog) w B 35 35 52 i0 (.agg #[.int .i64 0, .int .i64 0, .int .i64 0, .int .i64 0]) 4 32 Try.underlying35 hi0 hz0 hz1 hz2 rfl (by decide) v M.length (M.flatMap cE) hown ⟨g, off, none⟩ L.length cap (L.flatMap cE) (flat_len L) (fun j u hu => by rw [addE]; exact hc j u hu) (fun u hu => by
      obtain ⟨e, _, he⟩ := List.mem_flatMap.1 hu
      exact cE_one e u he) (by unfold maxLen; omega) (by omega) hB
    refine ⟨v', W', hr, ?_, h3, h5⟩
    unfold RowE
    rw [List.length_append, List.flatMap_append]
    exact h2

theorem eqR7 (an ad ac bn bd bc : Int) (w : World) : (binOp BinOp.eql 26 (.agg #[.int .i64 an, .int .i64 ad, .int .i64 ac]) (.agg #[.int .i64 bn, .int .i64 bd, .int .i64 bc])).run Try.prog w = .ok (.bool (decide (an = bn ∧ ad = bd ∧ ac = bc))) w := by
  by_cases h1 : an = bn
  · by_cases h2 : ad = bd
    · by_cases h3 : ac = bc
      · subst h1 h2 h3
        go_simp
      · subst h1 h2
        go_simp
    · subst h1
      go_simp
  · go_simp
set_option maxHeartbeats 4000000 in
theorem r6never7_c (w : World) : Calls Try.prog 35 #[] w fun e w' => e = .returned (stV 1 0 0) ∧ Below w.heap.size w w' := by
  go_enter Try.func35, Try.ntmps35
  go_wp2
  exact bodyPost_ret (v := stV 1 0 0) (by simp [results, Try.results35, go_sem]) rfl ⟨rfl, belowA (Below.refl _ w) _⟩
theorem never3s {s : Sp} : decide (s.1 = 1 ∧ s.2.1 = 0 ∧ s.2.2 = 0) = decide (s = (1, 0, 0)) := by
  obtain ⟨a, b, c⟩ := s
  simp

/-- What Put answers, and what it lays. -/
def putP (E : Int) (L : List En) (s : Sp) (x : Int) (p : Option Addr) (cap : Nat) (W : World) (e : Ending) (w' : World) : Prop :=
  if E = 0 then ∃ v, e = .returned (.tuple #[v, .int .i64 0]) ∧ RowE w' W.heap.size v (L ++ [(s, x)]) else e = .returned (.tuple #[.slice p L.length cap, .int .i64 E])
theorem putP_ok {E : Int} {L : List En} {s : Sp} {x : Int} {p : Option Addr} {cap : Nat} {W w' : World} {v : Value} (h : E = 0) (hr : RowE w' W.heap.size v (L ++ [(s, x)])) : putP E L s x p cap W (.returned (.tuple #[v, .int .i64 0])) w' := by
  unfold putP
  rw [if_pos h]
  exact ⟨_, rfl, hr⟩
theorem putP_no {E e : Int} {L : List En} {s : Sp} {x : Int} {p : Option Addr} {cap : Nat} {W w' : World} (h : E = e) (h0 : ¬ e = 0) : putP E L s x p cap W (.returned (.tuple #[.slice p L.length cap, .int .i64 e])) w' := by
  unfold putP
  rw [h, if_neg h0]
set_option maxHeartbeats 16000000 in
set_option maxRecDepth 100000 in
theorem rput_c (k : Nat) (L : List En) (s : Sp) (x : Int) (p : Option Addr) (cap : Nat) (W : World) (hk : k ≤ 1048576) (hn : L.length ≤ 4000000) (hs : s.I) (hI : ∀ e ∈ L, e.1.I) (hL : FlatE W p L) :
    Calls Try.prog 18 #[.slice p L.length cap, .int .i64 (k : Int), s.v, .int .i64 x] W fun e w' => putP (putE k L s) L s x p cap W e w' ∧ Below W.heap.size W w' := by
  have mixed : Try.prog.follows .mixedOrders = true := by kernel_rfl
  obtain ⟨W1, hW1⟩ : ∃ W1, W.alloc (.cells #[.int .i64 s.1, .int .i64 s.2.1, .int .i64 s.2.2] 26) = W1 := ⟨_, rfl⟩
  have hb1 : Below W.heap.size W W1 := hW1 ▸ bA' (Below.refl _ _) (Nat.le_refl _) _
  have hbx : W1.heap[W.heap.size]? = some (.cells #[.int .i64 s.1, .int .i64 s.2.1, .int .i64 s.2.2] 26 (0, 0)) := hW1 ▸ World.alloc_heap_new W _
  have KR := Lib.hid (r6right_c s.1 s.2.1 s.2.2 hs)
  have HQ := Lib.hid (fun W => eqR7 s.1 s.2.1 s.2.2 1 0 0 W)
  have HO := Lib.hid (And.intro hb1 hbx)
  have HW := Lib.hid hW1
  have HH := Lib.hid (And.intro hn (And.intro hs (And.intro hI hL)))
  have HK := Lib.hid hk
  have HP := Lib.hid (show putE k L s = if s.R = true ∧ s ≠ (1, 0, 0) then (if ∀ a, L.getLast? = some a → cmp a.1 s < 0 then (if L.length < k then 0 else 14) else 15) else 1 from rfl)
  obtain ⟨x0, x1, x2⟩ := cells3 hbx (Below.refl _ _)
  obtain ⟨E, hE⟩ : ∃ E, putE k L s = E := ⟨_, rfl⟩
  rw [hE] at HP ⊢
  clear hb1 hbx hL hW1 hn hs hI hE hk
  rcases Bool.eq_false_or_eq_true s.R with hr | hr
  · have KR2 := KR.out
    rw [show sRight s.1 s.2.1 s.2.2 = true from hr] at KR2
    replace KR := Lib.hid KR2
    clear KR2
    by_cases hv : s = (1, 0, 0)
    · have heq : ∀ W : World, (binOp BinOp.eql 26 (.agg #[.int .i64 s.1, .int .i64 s.2.1, .int .i64 s.2.2]) (.agg #[.int .i64 1, .int .i64 0, .int .i64 0])).run Try.prog W = .ok (.bool true) W := fun W => by rw [HQ.out, never3s, decide_eq_true hv]
      have HS := Lib.hid (show E = 1 from by rw [HP.out]; rw [if_neg fun h => h.2 hv])
      clear HP
      clear hv hr
      go_enter Try.func18, Try.ntmps18
      go_wp2_with fail
      rw [HW.out]
      clear HW
      first | go_region_held3 (fun w' => w'.cell? ⟨W.heap.size, 0, none⟩ = some (.int .i64 s.1) ∧ w'.cell? ⟨W.heap.size, 1, none⟩ = some (.int .i64 s.2.1) ∧ w'.cell? ⟨W.heap.size, 2, none⟩ = some (.int .i64 s.2.2) ∧ Below W1.heap.size W1 w')
        (first | (go_split_ands; with_reducible exact ⟨keepc hb (by assumption), keepc hb (by assumption), keepc hb (by assumption), belowT (by assumption) hb⟩) | exact ⟨x0, x1, x2, Below.drew (Below.refl _ W1)⟩ | go_keep)
        (first
          | (go_at_call 17; refine (KR.out _).mono ?_; rintro e w6 ⟨rfl, hb⟩)
          | (go_at_call 35; refine (r6never7_c _).mono ?_; rintro e w6 ⟨rfl, hb⟩)) | fail
      all_goals go_split_ands
      all_goals have HB := Lib.hid (show Below W1.heap.size W1 w6 from by with_reducible assumption)
      all_goals (first | clear x0 x1 x2 | skip)
      all_goals
        go_wp2
        exact bodyPost_ret (v := .tuple #[.slice p L.length cap, .int .i64 1]) (by simp [results, Try.results18, go_sem]) rfl ⟨putP_no HS.out (by decide), bT' HO.out.1 HB.out HO.out.1.size⟩
    · have heq : ∀ W : World, (binOp BinOp.eql 26 (.agg #[.int .i64 s.1, .int .i64 s.2.1, .int .i64 s.2.2]) (.agg #[.int .i64 1, .int .i64 0, .int .i64 0])).run Try.prog W = .ok (.bool false) W := fun W => by rw [HQ.out, never3s, decide_eq_false hv]
      rcases List.eq_nil_or_concat L with hL0 | ⟨M, e, hLe⟩
      · have hlast : ∀ a, L.getLast? = some a → cmp a.1 s < 0 := fun a h => by rw [hL0] at h; cases h
        have hl0 : decide ((L.length : Int) > 0) = false := decide_eq_false (by rw [hL0]; simp)
        have hl1 : decide (0 < L.length) = false := decide_eq_false (by rw [hL0]; simp)
        clear hL0
        go_enter Try.func18, Try.ntmps18
        go_wp2_with fail
        rw [HW.out]
        clear HW
        first | go_region_held3 (fun w' => w'.cell? ⟨W.heap.size, 0, none⟩ = some (.int .i64 s.1) ∧ w'.cell? ⟨W.heap.size, 1, none⟩ = some (.int .i64 s.2.1) ∧ w'.cell? ⟨W.heap.size, 2, none⟩ = some (.int .i64 s.2.2) ∧ Below W1.heap.size W1 w')
          (first | (go_split_ands; with_reducible exact ⟨keepc hb (by assumption), keepc hb (by assumption), keepc hb (by assumption), belowT (by assumption) hb⟩) | exact ⟨x0, x1, x2, Below.drew (Below.refl _ W1)⟩ | go_keep)
          (first
            | (go_at_call 17; refine (KR.out _).mono ?_; rintro e w6 ⟨rfl, hb⟩)
            | (go_at_call 35; refine (r6never7_c _).mono ?_; rintro e w6 ⟨rfl, hb⟩)) | fail
        all_goals go_split_ands
        all_goals have HB := Lib.hid (show Below W1.heap.size W1 w6 from by with_reducible assumption)
        all_goals (first | clear x0 x1 x2 | skip)
        all_goals
          have hbx := kbE HO.out.2 HB.out
          obtain ⟨x0, x1, x2⟩ := cells3 hbx (Below.refl _ _)
          clear hbx
          go_wp2_with fail
          go_quiet (fail)
          obtain ⟨V, hV⟩ : ∃ V, w6.drewN nq = V := ⟨_, rfl⟩
          rw [hV]
          replace HB := Lib.hid (show Below W1.heap.size W1 V from hV ▸ belowT HB.out (belowN (Below.refl _ _) _))
          clear hV x0 x1 x2 hl0 hl1
          by_cases hk : L.length < k
          · have hlr : decide ((L.length : Int) ≥ (k : Int)) = false := decide_eq_false (by omega)
            have hlq : decide (k ≤ L.length) = false := decide_eq_false (by omega)
            have HS := Lib.hid (show E = 0 from by rw [HP.out]; rw [if_pos ⟨hr, hv⟩, if_pos hlast, if_pos hk])
            clear HP
            clear hlast hk
            obtain ⟨v1, W7, hr1, ho1, hg1, hl1⟩ := appendE (B := W1.heap.size) (v := .slice none 0 0) (M := []) cap (w := V) (World.ownsRow_nil _ _ _ _) ((HH.out.2.2.2.keep HO.out.1).keep HB.out) HB.out.size (by have := HH.out.1; simp; omega)
            have hb7 : Below W1.heap.size W1 W7 := HB.out.grown hg1 HB.out.size fun q e => by cases e
            obtain ⟨p1, c1, rfl, hf1⟩ := RowE.form ho1
            have hbx7 := kbE HO.out.2 hb7
            obtain ⟨x0, x1, x2⟩ := cells3 hbx7 (Below.refl _ _)
            have hnewf : FlatE (W7.alloc (.cells #[.int .i64 s.1, .int .i64 s.2.1, .int .i64 s.2.2, .int .i64 x] 52)) (some ⟨W7.heap.size, 0, none⟩) [(s, x)] := .inr ⟨W7.heap.size, 0, rfl, fun j u hu => by
              have := World.ownsRow_lit (base := 0) (e := 52) (size := 4) W7 #[.int .i64 s.1, .int .i64 s.2.1, .int .i64 s.2.2, .int .i64 x] 1 (by omega) (by unfold maxLen; omega) rfl
              have hc := this.cells (g := W7.heap.size) (by simp [Value.ownBlock]) j u (by simpa [cE] using hu)
              rw [addE] at hc
              exact hc⟩
            obtain ⟨v2, W8, hr2, ho2, hg2, hl2⟩ := appendE (B := W1.heap.size) (v := .slice p1 ([] ++ L).length c1) (M := [] ++ L) 1 (w := W7.alloc (.cells #[.int .i64 s.1, .int .i64 s.2.1, .int .i64 s.2.2, .int .i64 x] 52)) (ownsRow_below ho1 (bA' (Below.refl _ W7) (Nat.le_refl _) _)) hnewf (by have := hb7.size; simp; omega) (by have := HH.out.1; simp; omega)
            have hb7a : Below W1.heap.size W1 (W7.alloc (.cells #[.int .i64 s.1, .int .i64 s.2.1, .int .i64 s.2.2, .int .i64 x] 52)) := bA' hb7 hb7.size _
            have hb8 : Below W1.heap.size W1 W8 := hb7a.grown hg2 hb7a.size fun q e => (ho1.lt q e).1
            simp only [List.nil_append, List.length_singleton] at hr1 hr2 ho2
            have HZ := Lib.hid (And.intro (ownsRow_low ho2 HO.out.1.size) (bT' HO.out.1 hb8 HO.out.1.size))
            clear ho1 hg1 hl1 hb7 hf1 hbx7 hnewf ho2 hg2 hl2 hb7a hb8
            go_wp2_with (first
              | (at_builtin; refine wpList_append_run rfl (.tmp 41) (.tmp 42) 35 rfl rfl rfl hr1 ?_)
              | (at_builtin; refine wpList_append_run rfl (.tmp 44) (.tmp 48) 35 rfl rfl rfl hr2 ?_))
            exact bodyPost_ret (v := .tuple #[v2, .int .i64 0]) (by simp [results, Try.results18, go_sem]) rfl ⟨putP_ok HS.out HZ.out.1, HZ.out.2⟩
          · have hlr : decide ((L.length : Int) ≥ (k : Int)) = true := decide_eq_true (by omega)
            have hlq : decide (k ≤ L.length) = true := decide_eq_true (by omega)
            have HS := Lib.hid (show E = 14 from by rw [HP.out]; rw [if_pos ⟨hr, hv⟩, if_pos hlast, if_neg hk])
            clear HP
            clear hlast hk
            go_wp2
            exact bodyPost_ret (v := .tuple #[.slice p L.length cap, .int .i64 14]) (by simp [results, Try.results18, go_sem]) rfl ⟨putP_no HS.out (by decide), bT' HO.out.1 HB.out HO.out.1.size⟩
      · rw [List.concat_eq_append] at hLe
        have hgl : L.getLast? = some e := by rw [hLe]; simp
        have hat : L[L.length - 1]? = some e := by rw [hLe]; simp
        have hpos : 0 < L.length := by rw [hLe]; simp
        obtain ⟨m, hm⟩ : ∃ m, L.length - 1 = m := ⟨_, rfl⟩
        rw [hm] at hat
        have hl0 : decide ((L.length : Int) > 0) = true := decide_eq_true (by omega)
        have hl1 : decide (0 < L.length) = true := decide_eq_true hpos
        have hsub : IntKind.i64.wrap ((L.length : Int) - 1) = (m : Int) := by rw [IntKind.wrap_i64] <;> (have := HH.out.1; omega)
        have hm0 : (0 : Int) ≤ (m : Int) := by omega
        have hml : (m : Int) < (L.length : Int) := by omega
        have hIe := HH.out.2.2.1 e (List.mem_of_getLast? hgl)
        have KC := Lib.hid (r6cmp_c e.1.1 e.1.2.1 e.1.2.2 s.1 s.2.1 s.2.2 hIe HH.out.2.1)
        obtain ⟨c, hc⟩ : ∃ c, sCmp e.1.1 e.1.2.1 e.1.2.2 s.1 s.2.1 s.2.2 = c := ⟨_, rfl⟩
        rw [hc] at KC
        have HC := Lib.hid (show cmp e.1 s = c from hc)
        have HAT := Lib.hid (And.intro hat hgl)
        clear hat hgl hm hpos hLe hIe hc
        go_enter Try.func18, Try.ntmps18
        go_wp2_with fail
        rw [HW.out]
        clear HW
        first | go_region_held3 (fun w' => w'.cell? ⟨W.heap.size, 0, none⟩ = some (.int .i64 s.1) ∧ w'.cell? ⟨W.heap.size, 1, none⟩ = some (.int .i64 s.2.1) ∧ w'.cell? ⟨W.heap.size, 2, none⟩ = some (.int .i64 s.2.2) ∧ Below W1.heap.size W1 w')
          (first | (go_split_ands; with_reducible exact ⟨keepc hb (by assumption), keepc hb (by assumption), keepc hb (by assumption), belowT (by assumption) hb⟩) | exact ⟨x0, x1, x2, Below.drew (Below.refl _ W1)⟩ | go_keep)
          (first
            | (go_at_call 17; refine (KR.out _).mono ?_; rintro e w6 ⟨rfl, hb⟩)
            | (go_at_call 35; refine (r6never7_c _).mono ?_; rintro e w6 ⟨rfl, hb⟩)) | fail
        all_goals go_split_ands
        all_goals have HB := Lib.hid (show Below W1.heap.size W1 w6 from by with_reducible assumption)
        all_goals (first | clear x0 x1 x2 | skip)
        all_goals
          have hbx := kbE HO.out.2 HB.out
          obtain ⟨x0, x1, x2⟩ := cells3 hbx (Below.refl _ _)
          clear hbx
          obtain ⟨g, off, rfl, e0, e1, e2, e3⟩ := ((HH.out.2.2.2.keep HO.out.1).keep HB.out).in m e HAT.out.1
          go_wp2_with fail
          go_region_held3 (fun w' => w'.cell? ⟨g, off + m * 4, none⟩ = some (.int .i64 e.1.1) ∧ w'.cell? ⟨g, off + m * 4 + 1, none⟩ = some (.int .i64 e.1.2.1) ∧ w'.cell? ⟨g, off + m * 4 + 2, none⟩ = some (.int .i64 e.1.2.2) ∧ w'.cell? ⟨W.heap.size, 0, none⟩ = some (.int .i64 s.1) ∧ w'.cell? ⟨W.heap.size, 1, none⟩ = some (.int .i64 s.2.1) ∧ w'.cell? ⟨W.heap.size, 2, none⟩ = some (.int .i64 s.2.2) ∧ Below w6.heap.size w6 w')
            (first | (go_split_ands; with_reducible exact ⟨keepc hb (by assumption), keepc hb (by assumption), keepc hb (by assumption), keepc hb (by assumption), keepc hb (by assumption), keepc hb (by assumption), belowT (by assumption) hb⟩) | exact ⟨e0, e1, e2, x0, x1, x2, Below.drew (Below.refl _ w6)⟩ | go_keep)
            (first
              | (go_at_call 32; refine (KC.out _).mono ?_; rintro e w9 ⟨rfl, hb⟩))
          all_goals go_split_ands
          all_goals
            have hb9 : Below w6.heap.size w6 w9 := by with_reducible assumption
            replace HB := Lib.hid (bT' HB.out hb9 HB.out.size)
            clear hb9 e0 e1 e2 e3 hl0 hl1
            have hc3 : c = -1 ∨ c = 0 ∨ c = 1 := by have := cmp_in e.1 s; rw [HC.out] at this; omega
            rcases hc3 with rfl | rfl | rfl
            · have hlast : ∀ a, L.getLast? = some a → cmp a.1 s < 0 := fun a h => by
                rw [HAT.out.2] at h
                cases h
                rw [HC.out]
                decide
              by_cases hk : L.length < k
              · have hlr : decide ((L.length : Int) ≥ (k : Int)) = false := decide_eq_false (by omega)
                have hlq : decide (k ≤ L.length) = false := decide_eq_false (by omega)
                have HS := Lib.hid (show E = 0 from by rw [HP.out]; rw [if_pos ⟨hr, hv⟩, if_pos hlast, if_pos hk])
                clear HP
                clear hlast hk
                obtain ⟨v1, W7, hr1, ho1, hg1, hl1⟩ := appendE (B := W1.heap.size) (v := .slice none 0 0) (M := []) cap (w := w9) (World.ownsRow_nil _ _ _ _) ((HH.out.2.2.2.keep HO.out.1).keep HB.out) HB.out.size (by have := HH.out.1; simp; omega)
                have hb7 : Below W1.heap.size W1 W7 := HB.out.grown hg1 HB.out.size fun q e => by cases e
                obtain ⟨p1, c1, rfl, hf1⟩ := RowE.form ho1
                have hbx7 := kbE HO.out.2 hb7
                obtain ⟨x0, x1, x2⟩ := cells3 hbx7 (Below.refl _ _)
                have hnewf : FlatE (W7.alloc (.cells #[.int .i64 s.1, .int .i64 s.2.1, .int .i64 s.2.2, .int .i64 x] 52)) (some ⟨W7.heap.size, 0, none⟩) [(s, x)] := .inr ⟨W7.heap.size, 0, rfl, fun j u hu => by
                  have := World.ownsRow_lit (base := 0) (e := 52) (size := 4) W7 #[.int .i64 s.1, .int .i64 s.2.1, .int .i64 s.2.2, .int .i64 x] 1 (by omega) (by unfold maxLen; omega) rfl
                  have hc := this.cells (g := W7.heap.size) (by simp [Value.ownBlock]) j u (by simpa [cE] using hu)
                  rw [addE] at hc
                  exact hc⟩
                obtain ⟨v2, W8, hr2, ho2, hg2, hl2⟩ := appendE (B := W1.heap.size) (v := .slice p1 ([] ++ L).length c1) (M := [] ++ L) 1 (w := W7.alloc (.cells #[.int .i64 s.1, .int .i64 s.2.1, .int .i64 s.2.2, .int .i64 x] 52)) (ownsRow_below ho1 (bA' (Below.refl _ W7) (Nat.le_refl _) _)) hnewf (by have := hb7.size; simp; omega) (by have := HH.out.1; simp; omega)
                have hb7a : Below W1.heap.size W1 (W7.alloc (.cells #[.int .i64 s.1, .int .i64 s.2.1, .int .i64 s.2.2, .int .i64 x] 52)) := bA' hb7 hb7.size _
                have hb8 : Below W1.heap.size W1 W8 := hb7a.grown hg2 hb7a.size fun q e => (ho1.lt q e).1
                simp only [List.nil_append, List.length_singleton] at hr1 hr2 ho2
                have HZ := Lib.hid (And.intro (ownsRow_low ho2 HO.out.1.size) (bT' HO.out.1 hb8 HO.out.1.size))
                clear ho1 hg1 hl1 hb7 hf1 hbx7 hnewf ho2 hg2 hl2 hb7a hb8
                go_wp2_with (first
                  | (at_builtin; refine wpList_append_run rfl (.tmp 41) (.tmp 42) 35 rfl rfl rfl hr1 ?_)
                  | (at_builtin; refine wpList_append_run rfl (.tmp 44) (.tmp 48) 35 rfl rfl rfl hr2 ?_))
                exact bodyPost_ret (v := .tuple #[v2, .int .i64 0]) (by simp [results, Try.results18, go_sem]) rfl ⟨putP_ok HS.out HZ.out.1, HZ.out.2⟩
              · have hlr : decide ((L.length : Int) ≥ (k : Int)) = true := decide_eq_true (by omega)
                have hlq : decide (k ≤ L.length) = true := decide_eq_true (by omega)
                have HS := Lib.hid (show E = 14 from by rw [HP.out]; rw [if_pos ⟨hr, hv⟩, if_pos hlast, if_neg hk])
                clear HP
                clear hlast hk
                go_wp2
                exact bodyPost_ret (v := .tuple #[.slice (some ⟨g, off, none⟩) L.length cap, .int .i64 14]) (by simp [results, Try.results18, go_sem]) rfl ⟨putP_no HS.out (by decide), bT' HO.out.1 HB.out HO.out.1.size⟩
            · have HS := Lib.hid (show E = 15 from by rw [HP.out]; rw [if_pos ⟨hr, hv⟩, if_neg]; intro hh; have := hh _ HAT.out.2; rw [HC.out] at this; exact absurd this (by decide))
              clear HP
              go_wp2
              exact bodyPost_ret (v := .tuple #[.slice (some ⟨g, off, none⟩) L.length cap, .int .i64 15]) (by simp [results, Try.results18, go_sem]) rfl ⟨putP_no HS.out (by decide), bT' HO.out.1 HB.out HO.out.1.size⟩
            · have HS := Lib.hid (show E = 15 from by rw [HP.out]; rw [if_pos ⟨hr, hv⟩, if_neg]; intro hh; have := hh _ HAT.out.2; rw [HC.out] at this; exact absurd this (by decide))
              clear HP
              go_wp2
              exact bodyPost_ret (v := .tuple #[.slice (some ⟨g, off, none⟩) L.length cap, .int .i64 15]) (by simp [results, Try.results18, go_sem]) rfl ⟨putP_no HS.out (by decide), bT' HO.out.1 HB.out HO.out.1.size⟩
  · have KR2 := KR.out
    rw [show sRight s.1 s.2.1 s.2.2 = false from hr] at KR2
    replace KR := Lib.hid KR2
    clear KR2
    have HS := Lib.hid (show E = 1 from by rw [HP.out]; rw [if_neg fun h => by rw [hr] at h; exact absurd h.1 (by decide)])
    clear HP
    clear hr
    go_enter Try.func18, Try.ntmps18
    go_wp2_with fail
    rw [HW.out]
    clear HW
    first | go_region_with (first | (go_at_call 17; refine (KR.out _).mono ?_; rintro e w6 ⟨rfl, hb⟩)) | fail
    all_goals have HB := Lib.hid (show Below W1.heap.size W1 w6 from belowT (by repeat (first | with_reducible exact Below.refl _ _ | with_reducible refine Below.drew ?_ | with_reducible refine belowN ?_ _)) hb)
    all_goals clear hb x0 x1 x2
    all_goals
      go_wp2
      exact bodyPost_ret (v := .tuple #[.slice p L.length cap, .int .i64 1]) (by simp [results, Try.results18, go_sem]) rfl ⟨putP_no HS.out (by decide), bT' HO.out.1 HB.out HO.out.1.size⟩
end Go.Proofs.Ytibphmddepfgjaa.Tr
