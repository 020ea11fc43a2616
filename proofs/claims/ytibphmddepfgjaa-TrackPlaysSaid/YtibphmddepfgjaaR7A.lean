/-
  The contract of the given package gavotteref07's Parts over this seat's translation: what is less than a stamp, level with it, greater. Conditions: those that each theorem states.
-/
import Derived.Test.YtibphmddepfgjaaTrM
import Derived.Test.YtibphmddepfgjaaMG
import Derived.Test.YtibphmddepfgjaaQuA
import Derived.OwnWalk
import Derived.Maps.OwnIn
import Derived.Deep.DeepCutAuto
namespace Go.Proofs.Ytibphmddepfgjaa.Tr
open Go.RowKit Go.Shelf Go.Lib Go.Sort

theorem infoE : (Try.prog.info? 52).map (fun i => (i.zero, i.size, i.bytes)) = some (some (.agg #[.int .i64 0, .int .i64 0, .int .i64 0, .int .i64 0]), 4, 32) := by kernel_rfl
theorem kbE {W W' : World} {b : Nat} {o : Obj} (h : W.heap[b]? = some o) (hb : Below W.heap.size W W') : W'.heap[b]? = some o := (hb.block b (Array.getElem?_eq_some_iff.1 h).1).trans h
theorem ownsRow_keep {W W' : World} {B n sz : Nat} {e : TypeId} {v : Value} {xs : List Value} (h : W.ownsRow B e sz v n xs) (hk : ∀ g, v.ownBlock = some g → W'.heap[g]? = W.heap[g]?) : W'.ownsRow B e sz v n xs := by
  refine ⟨h.1, ?_⟩
  rcases h.2 with h3 | ⟨g, cap, cur, e, hB, hg, rest⟩
  · exact .inl h3
  · exact .inr ⟨g, cap, cur, e, hB, (hk g (by rw [e]; rfl)).trans hg, rest⟩
theorem ownsRow_below {W W' : World} {B n sz : Nat} {e : TypeId} {v : Value} {xs : List Value} (h : W.ownsRow B e sz v n xs) (hb : Below W.heap.size W W') : W'.ownsRow B e sz v n xs := ownsRow_keep h fun g e => hb.block g (h.lt g e).2
theorem ownsRow_low {W : World} {B B' n sz : Nat} {e : TypeId} {v : Value} {xs : List Value} (h : W.ownsRow B e sz v n xs) (hB : B' ≤ B) : W.ownsRow B' e sz v n xs := by
  refine ⟨h.1, ?_⟩
  rcases h.2 with h3 | ⟨g, cap, cur, e, hb, hg, rest⟩
  · exact .inl h3
  · exact .inr ⟨g, cap, cur, e, Nat.le_trans hB hb, hg, rest⟩
/-- A list of entries that lies in memory. -/
abbrev InE (W : World) (p : Option Addr) (L : List En) : Prop := ∀ i e, L[i]? = some e → ∃ g off, p = some ⟨g, off, none⟩ ∧ W.cell? ⟨g, off + i * 4, none⟩ = some (.int .i64 e.1.1) ∧ W.cell? ⟨g, off + i * 4 + 1, none⟩ = some (.int .i64 e.1.2.1) ∧ W.cell? ⟨g, off + i * 4 + 2, none⟩ = some (.int .i64 e.1.2.2) ∧ W.cell? ⟨g, off + i * 4 + 3, none⟩ = some (.int .i64 e.2)
theorem InE.keep {W W' : World} {p : Option Addr} {L : List En} (h : InE W p L) (hb : Below W.heap.size W W') : InE W' p L := fun i e hi => by
  obtain ⟨g, off, hp, e0, e1, e2, e3⟩ := h i e hi
  exact ⟨g, off, hp, keepc hb e0, keepc hb e1, keepc hb e2, keepc hb e3⟩
theorem flat_len : ∀ L : List En, (L.flatMap cE).length = L.length * 4
  | [] => rfl
  | e :: L => by
    rw [List.flatMap_cons, List.length_append, flat_len L, cE_len, List.length_cons]
    omega
theorem flat_at : ∀ {L : List En} {i : Nat} {e : En}, L[i]? = some e → ∀ {j : Nat} {v : Value}, (cE e)[j]? = some v → (L.flatMap cE)[i * 4 + j]? = some v
  | [], i, e, h, j, v, _ => by simp at h
  | a :: L, 0, e, h, j, v, hj => by
    obtain rfl : a = e := by simpa using h
    rw [List.flatMap_cons, List.getElem?_append_left (by have := (List.getElem?_eq_some_iff.1 hj).1; omega), show 0 * 4 + j = j from by omega]
    exact hj
  | a :: L, i + 1, e, h, j, v, hj => by
    rw [List.flatMap_cons, List.getElem?_append_right (by rw [cE_len]; omega), cE_len, show (i + 1) * 4 + j - 4 = i * 4 + j from by omega]
    exact flat_at (by simpa using h) hj
theorem InE.of_row {W : World} {B : Nat} {p : Option Addr} {n cap : Nat} {L : List En} (h : W.ownsRow B 52 4 (.slice p n cap) n (L.flatMap cE)) : InE W p L := by
  intro i e hi
  have hpos : 0 < (L.flatMap cE).length := by
    rw [flat_len]
    have := (List.getElem?_eq_some_iff.1 hi).1
    omega
  rcases h.2 with ⟨e1, e2⟩ | ⟨g, cap', cur, e1, hB, hg, rest⟩
  · exfalso
    have h1 := h.1
    have : n = 0 := by first | (simpa using e2) | (rw [Value.slice.injEq] at e1; omega) | omega
    subst this
    rw [h1] at hpos
    simp at hpos
  · have hp : p = some ⟨g, 0, none⟩ := by
      simp at e1
      exact e1.1
    have hc := h.cells (g := g) (by rw [hp]; rfl)
    have ha : ∀ m, (⟨g, 0, none⟩ : Addr).add m = ⟨g, m, none⟩ := fun m => by
      unfold Addr.add
      by_cases h : m = 0 <;> simp [h]
    have h0 := hc (i * 4 + 0) _ (flat_at hi (j := 0) rfl)
    have h1 := hc (i * 4 + 1) _ (flat_at hi (j := 1) rfl)
    have h2 := hc (i * 4 + 2) _ (flat_at hi (j := 2) rfl)
    have h3 := hc (i * 4 + 3) _ (flat_at hi (j := 3) rfl)
    rw [ha] at h0 h1 h2 h3
    exact ⟨g, 0, hp, by rw [show (⟨g, 0 + i * 4, none⟩ : Addr) = ⟨g, i * 4 + 0, none⟩ from by congr 1; omega]; exact h0, by rw [show (⟨g, 0 + i * 4 + 1, none⟩ : Addr) = ⟨g, i * 4 + 1, none⟩ from by congr 1; omega]; exact h1, by rw [show (⟨g, 0 + i * 4 + 2, none⟩ : Addr) = ⟨g, i * 4 + 2, none⟩ from by congr 1; omega]; exact h2, by rw [show (⟨g, 0 + i * 4 + 3, none⟩ : Addr) = ⟨g, i * 4 + 3, none⟩ from by congr 1; omega]; exact h3⟩
/-- A row of one's own that holds entries. -/
abbrev RowE (W : World) (B : Nat) (v : Value) (L : List En) : Prop := W.ownsRow B 52 4 v L.length (L.flatMap cE)
/-- Three rows of one's own, apart. -/
structure Rows3 (B : Nat) (a b c : Value) (L M N : List En) (W : World) : Prop where
  ra : RowE W B a L
  rb : RowE W B b M
  rc : RowE W B c N
  ab : ∀ g, a.ownBlock = some g → b.ownBlock ≠ some g
  ac : ∀ g, a.ownBlock = some g → c.ownBlock ≠ some g
  bc : ∀ g, b.ownBlock = some g → c.ownBlock ≠ some g
theorem Rows3.below {B : Nat} {a b c : Value} {L M N : List En} {W W' : World} (h : Rows3 B a b c L M N W) (hb : Below W.heap.size W W') : Rows3 B a b c L M N W' := ⟨ownsRow_below h.ra hb, ownsRow_below h.rb hb, ownsRow_below h.rc hb, h.ab, h.ac, h.bc⟩
theorem row_snoc {W : World} {B : Nat} {v : Value} {L : List En} {e : En} (h : W.ownsRow B 52 4 v (L.length + 1) (L.flatMap cE ++ cE e)) : RowE W B v (L ++ [e]) := by
  unfold RowE
  rw [List.flatMap_append, List.length_append]
  simpa using h
theorem keep_row {W w8 : World} {B n sz : Nat} {t : TypeId} {v u : Value} {xs : List Value} (h : W.ownsRow B t sz v n xs) (hg : W.grownBy w8 u.ownBlock) (hn : ∀ g, u.ownBlock = some g → v.ownBlock ≠ some g) : w8.ownsRow B t sz v n xs := ownsRow_keep h fun g e => hg.block g (h.lt g e).2 fun e2 => hn g e2.symm e
theorem Rows3.growA {B : Nat} {a a' b c : Value} {L M N : List En} {e : En} {W w8 : World} (h : Rows3 B a b c L M N W) (hg : W.grownBy w8 a.ownBlock) (hown : w8.ownsRow B 52 4 a' (L.length + 1) (L.flatMap cE ++ cE e)) (hloc : a'.ownBlock = a.ownBlock ∨ a'.ownBlock = some W.heap.size) : Rows3 B a' b c (L ++ [e]) M N w8 := by
  refine ⟨row_snoc hown, keep_row h.rb hg h.ab, keep_row h.rc hg h.ac, fun g e1 e2 => ?_, fun g e1 e2 => ?_, h.bc⟩
  · rcases hloc with h1 | h1
    · exact h.ab g (h1 ▸ e1) e2
    · have := (h.rb.lt g e2).2
      rw [h1] at e1
      cases e1
      omega
  · rcases hloc with h1 | h1
    · exact h.ac g (h1 ▸ e1) e2
    · have := (h.rc.lt g e2).2
      rw [h1] at e1
      cases e1
      omega
theorem Rows3.turn {B : Nat} {a b c : Value} {L M N : List En} {W : World} (h : Rows3 B a b c L M N W) : Rows3 B b c a M N L W := ⟨h.rb, h.rc, h.ra, h.bc, fun g e1 e2 => h.ab g e2 e1, fun g e1 e2 => h.ac g e2 e1⟩
theorem take_snocE {L : List En} {k : Nat} {e : En} (h : L[k]? = some e) : L.take (k + 1) = L.take k ++ [e] := by
  rw [List.take_add_one, h]
  rfl
theorem less_snoc {L : List En} {e : En} {s : Sp} : lessL (L ++ [e]) s = if cmp e.1 s < 0 then lessL L s ++ [e] else lessL L s := by
  unfold lessL
  rw [List.filter_append]
  by_cases h : cmp e.1 s < 0
  · rw [if_pos h, List.filter_cons_of_pos (by simpa using h)]; rfl
  · rw [if_neg h, List.filter_cons_of_neg (by simpa using h)]; simp
theorem lev_snoc {L : List En} {e : En} {s : Sp} : levL (L ++ [e]) s = if cmp e.1 s = 0 then levL L s ++ [e] else levL L s := by
  unfold levL
  rw [List.filter_append]
  by_cases h : cmp e.1 s = 0
  · rw [if_pos h, List.filter_cons_of_pos (by simpa using h)]; rfl
  · rw [if_neg h, List.filter_cons_of_neg (by simpa using h)]; simp
theorem more_snoc {L : List En} {e : En} {s : Sp} : moreL (L ++ [e]) s = if 0 < cmp e.1 s then moreL L s ++ [e] else moreL L s := by
  unfold moreL
  rw [List.filter_append]
  by_cases h : 0 < cmp e.1 s
  · rw [if_pos h, List.filter_cons_of_pos (by simpa using h)]; rfl
  · rw [if_neg h, List.filter_cons_of_neg (by simpa using h)]; simp

set_option maxHeartbeats 16000000 in
set_option maxRecDepth 100000 in
theorem parts_c (L : List En) (s : Sp) (p : Option Addr) (cap : Nat) (W : World) (hn : L.length ≤ 4000000) (hs : s.I) (hI : ∀ e ∈ L, e.1.I) (hL : InE W p L) :
    Calls Try.prog 16 #[.slice p L.length cap, s.v] W fun e w' => (∃ a b c, e = .returned (.tuple #[a, b, c]) ∧ Rows3 W.heap.size a b c (lessL L s) (levL L s) (moreL L s) w') ∧ Below W.heap.size W w' := by
  have mixed : Try.prog.follows .mixedOrders = true := by kernel_rfl
  obtain ⟨i0, hi0, hz0, hz1, hz2⟩ := info_parts infoE
  obtain ⟨W1, hW1⟩ : ∃ W1, W.alloc (.cells #[.int .i64 s.1, .int .i64 s.2.1, .int .i64 s.2.2] 26) = W1 := ⟨_, rfl⟩
  have hb1 : Below W.heap.size W W1 := hW1 ▸ bA' (Below.refl _ _) (Nat.le_refl _) _
  have hbx : W1.heap[W.heap.size]? = some (.cells #[.int .i64 s.1, .int .i64 s.2.1, .int .i64 s.2.2] 26 (0, 0)) := hW1 ▸ World.alloc_heap_new W _
  have hs1 : W1.heap.size = W.heap.size + 1 := by rw [← hW1]; simp
  have H1 := Lib.hid (And.intro hb1 (And.intro hbx (And.intro hs1 (hL.keep hb1))))
  have HW := Lib.hid hW1
  have HH := Lib.hid (And.intro hn (And.intro hs hI))
  clear hb1 hbx hs1 hL hW1 hn hs hI
  go_enter Try.func16, Try.ntmps16
  go_wp2_with fail
  rw [HW.out]
  go_loopw [7, 8, 9, 10] (fun av bv cv iv wr => ∃ k : Nat, iv = .int .i64 k ∧ k ≤ L.length ∧ Hid (Below W1.heap.size W1 wr) ∧ Hid (Rows3 W1.heap.size av bv cv (lessL (L.take k) s) (levL (L.take k) s) (moreL (L.take k) s) wr)) (fun _ _ _ v _ => L.length - (intOf v).toNat)
  case atStart => exact ⟨0, rfl, Nat.zero_le _, Lib.hid (Below.refl _ _), Lib.hid ⟨World.ownsRow_nil _ _ _ _, World.ownsRow_nil _ _ _ _, World.ownsRow_nil _ _ _ _, (fun g e => by cases e), (fun g e => by cases e), (fun g e => by cases e)⟩⟩
  case round =>
    obtain ⟨k, rfl, hk, HB, HR⟩ := hrel
    by_cases hlt : k < L.length
    · have hkz : (k : Int) < (L.length : Int) := by omega
      have hk0 : (0 : Int) ≤ (k : Int) := by omega
      have hri : IntKind.i64.wrap ((k : Int) + 1) = ((k + 1 : Nat) : Int) := by rw [IntKind.wrap_i64]; have := HH.out.1; omega
      obtain ⟨e, he⟩ : ∃ e, L[k]? = some e := ⟨_, List.getElem?_eq_getElem hlt⟩
      obtain ⟨g, off, rfl, e0, e1, e2, e3⟩ := (H1.out.2.2.2.keep HB.out) k e he
      have hbx := kbE H1.out.2.1 HB.out
      obtain ⟨x0, x1, x2⟩ := cells3 hbx (Below.refl _ _)
      have hIe := HH.out.2.2 e (List.mem_of_getElem? he)
      have KC := Lib.hid (r6cmp_c e.1.1 e.1.2.1 e.1.2.2 s.1 s.2.1 s.2.2 hIe HH.out.2.1)
      obtain ⟨c, hc⟩ : ∃ c, sCmp e.1.1 e.1.2.1 e.1.2.2 s.1 s.2.1 s.2.2 = c := ⟨_, rfl⟩
      rw [hc] at KC
      have HC := Lib.hid (show cmp e.1 s = c from hc)
      have HT := Lib.hid (take_snocE he)
      have HE := Lib.hid (And.intro he hlt)
      clear hbx hIe hc he hlt hk
      go_wp2_with fail
      go_region_held3 (fun w' => w'.cell? ⟨g, off + k * 4, none⟩ = some (.int .i64 e.1.1) ∧ w'.cell? ⟨g, off + k * 4 + 1, none⟩ = some (.int .i64 e.1.2.1) ∧ w'.cell? ⟨g, off + k * 4 + 2, none⟩ = some (.int .i64 e.1.2.2) ∧ w'.cell? ⟨W.heap.size, 0, none⟩ = some (.int .i64 s.1) ∧ w'.cell? ⟨W.heap.size, 1, none⟩ = some (.int .i64 s.2.1) ∧ w'.cell? ⟨W.heap.size, 2, none⟩ = some (.int .i64 s.2.2) ∧ Below wr.heap.size wr w')
        (first | (go_split_ands; with_reducible exact ⟨keepc hb (by assumption), keepc hb (by assumption), keepc hb (by assumption), keepc hb (by assumption), keepc hb (by assumption), keepc hb (by assumption), belowT (by assumption) hb⟩) | exact ⟨e0, e1, e2, x0, x1, x2, Below.drew (Below.refl _ wr)⟩ | go_keep)
        (first
          | (go_at_call 32; refine (KC.out _).mono ?_; rintro e w6 ⟨rfl, hb⟩))
      all_goals go_split_ands
      all_goals
        have hb6 : Below wr.heap.size wr w6 := by with_reducible assumption
        have HB6 := Lib.hid (bT' HB.out hb6 HB.out.size)
        have HR6 := Lib.hid (HR.out.below hb6)
        obtain ⟨g', off', hgo, e0, e1, e2, e3⟩ := (H1.out.2.2.2.keep HB6.out) k e HE.out.1
        obtain ⟨rfl, rfl⟩ : g = g' ∧ off = off' := by simpa using hgo
        have HL := Lib.hid (show k ≤ 4000000 from by have := HH.out.1; have := HE.out.2; omega)
        have HG := Lib.hid (show W1.heap.size ≤ w6.heap.size from HB6.out.size)
        have HM := Lib.hid (show (lessL (L.take k) s).length ≤ k ∧ (levL (L.take k) s).length ≤ k ∧ (moreL (L.take k) s).length ≤ k from by
          have h0 : (L.take k).length ≤ k := List.length_take_le _ _
          exact ⟨Nat.le_trans (List.length_filter_le _ _) h0, Nat.le_trans (List.length_filter_le _ _) h0, Nat.le_trans (List.length_filter_le _ _) h0⟩)
        clear hb6 hgo
        by_cases h1 : c < 0
        · have hd : decide (c < 0) = true := decide_eq_true h1
          have HS := Lib.hid (show lessL (L.take (k + 1)) s = lessL (L.take k) s ++ [e] ∧ levL (L.take (k + 1)) s = levL (L.take k) s ∧ moreL (L.take (k + 1)) s = moreL (L.take k) s from by
            rw [HT.out, less_snoc, lev_snoc, more_snoc, HC.out, if_pos h1, if_neg (by omega), if_neg (by omega)]
            exact ⟨rfl, rfl, rfl⟩)
          clear h1
          go_wp2_with (at_builtin; refine wpList_append_own_at _ rfl _ _ 35 rfl W1.heap.size 52 i0 (.agg #[.int .i64 0, .int .i64 0, .int .i64 0, .int .i64 0]) 4 32 Try.underlying35 hi0 hz0 hz1 hz2 rfl (by decide) _ _ _ rfl (HR6.out.ra.alloc _) ⟨w6.heap.size, 0, none⟩ 1 1 [.int .i64 e.1.1, .int .i64 e.1.2.1, .int .i64 e.1.2.2, .int .i64 e.2] rfl rfl (by
              have := World.ownsRow_lit (base := 0) (e := 52) (size := 4) w6 #[.int .i64 e.1.1, .int .i64 e.1.2.1, .int .i64 e.1.2.2, .int .i64 e.2] 1 (by omega) (by unfold maxLen; omega) rfl
              exact this.cells (g := w6.heap.size) (by simp [Value.ownBlock])) (by
              intro u hu
              simp only [List.mem_cons, List.not_mem_nil, or_false] at hu
              rcases hu with rfl | rfl | rfl | rfl <;> rfl) (by unfold maxLen; have := HM.out; have := HL.out; omega) (by have := HM.out; have := HL.out; omega) (by have := HG.out; simp; omega) ?_; intro v' w8 hown' hg8 hnil8 hloc8)
          have HZ := Lib.hid ((HR6.out.below (bA' (Below.refl _ w6) (Nat.le_refl _) (.cells #[.int .i64 e.1.1, .int .i64 e.1.2.1, .int .i64 e.1.2.2, .int .i64 e.2] 52))).growA hg8 hown' hloc8)
          refine ⟨⟨k + 1, rfl, HE.out.2, ?_, ?_⟩, by have := HE.out.2; simp [intOf]; omega⟩
          · refine Lib.hid ?_
            have hbb : Below W1.heap.size W1 (w6.alloc (.cells #[.int .i64 e.1.1, .int .i64 e.1.2.1, .int .i64 e.1.2.2, .int .i64 e.2] 52)) := bA' HB6.out HB6.out.size _
            exact hbb.grown hg8 hbb.size fun q e => (HR6.out.ra.lt q e).1
          · refine Lib.hid ?_
            rw [HS.out.1, HS.out.2.1, HS.out.2.2]
            exact HZ.out
        · by_cases h2 : c = 0
          · have hd : decide (c < 0) = false := decide_eq_false h1
            have hz : (c == 0) = true := by simpa using h2
            have HS := Lib.hid (show lessL (L.take (k + 1)) s = lessL (L.take k) s ∧ levL (L.take (k + 1)) s = levL (L.take k) s ++ [e] ∧ moreL (L.take (k + 1)) s = moreL (L.take k) s from by
              rw [HT.out, less_snoc, lev_snoc, more_snoc, HC.out, if_neg h1, if_pos h2, if_neg (by omega)]
              exact ⟨rfl, rfl, rfl⟩)
            clear h1 h2
            go_wp2_with (at_builtin; refine wpList_append_own_at _ rfl _ _ 35 rfl W1.heap.size 52 i0 (.agg #[.int .i64 0, .int .i64 0, .int .i64 0, .int .i64 0]) 4 32 Try.underlying35 hi0 hz0 hz1 hz2 rfl (by decide) _ _ _ rfl (HR6.out.rb.alloc _) ⟨w6.heap.size, 0, none⟩ 1 1 [.int .i64 e.1.1, .int .i64 e.1.2.1, .int .i64 e.1.2.2, .int .i64 e.2] rfl rfl (by
                have := World.ownsRow_lit (base := 0) (e := 52) (size := 4) w6 #[.int .i64 e.1.1, .int .i64 e.1.2.1, .int .i64 e.1.2.2, .int .i64 e.2] 1 (by omega) (by unfold maxLen; omega) rfl
                exact this.cells (g := w6.heap.size) (by simp [Value.ownBlock])) (by
                intro u hu
                simp only [List.mem_cons, List.not_mem_nil, or_false] at hu
                rcases hu with rfl | rfl | rfl | rfl <;> rfl) (by unfold maxLen; have := HM.out; have := HL.out; omega) (by have := HM.out; have := HL.out; omega) (by have := HG.out; simp; omega) ?_; intro v' w8 hown' hg8 hnil8 hloc8)
            have HZ := Lib.hid ((HR6.out.below (bA' (Below.refl _ w6) (Nat.le_refl _) (.cells #[.int .i64 e.1.1, .int .i64 e.1.2.1, .int .i64 e.1.2.2, .int .i64 e.2] 52))).turn.growA hg8 hown' hloc8)
            refine ⟨⟨k + 1, rfl, HE.out.2, ?_, ?_⟩, by have := HE.out.2; simp [intOf]; omega⟩
            · refine Lib.hid ?_
              have hbb : Below W1.heap.size W1 (w6.alloc (.cells #[.int .i64 e.1.1, .int .i64 e.1.2.1, .int .i64 e.1.2.2, .int .i64 e.2] 52)) := bA' HB6.out HB6.out.size _
              exact hbb.grown hg8 hbb.size fun q e => (HR6.out.rb.lt q e).1
            · refine Lib.hid ?_
              rw [HS.out.1, HS.out.2.1, HS.out.2.2]
              exact HZ.out.turn.turn
          · have hd : decide (c < 0) = false := decide_eq_false h1
            have hz : (c == 0) = false := by simpa using h2
            have HS := Lib.hid (show lessL (L.take (k + 1)) s = lessL (L.take k) s ∧ levL (L.take (k + 1)) s = levL (L.take k) s ∧ moreL (L.take (k + 1)) s = moreL (L.take k) s ++ [e] from by
              rw [HT.out, less_snoc, lev_snoc, more_snoc, HC.out, if_neg h1, if_neg h2, if_pos (by omega)]
              exact ⟨rfl, rfl, rfl⟩)
            clear h1 h2
            go_wp2_with (at_builtin; refine wpList_append_own_at _ rfl _ _ 35 rfl W1.heap.size 52 i0 (.agg #[.int .i64 0, .int .i64 0, .int .i64 0, .int .i64 0]) 4 32 Try.underlying35 hi0 hz0 hz1 hz2 rfl (by decide) _ _ _ rfl (HR6.out.rc.alloc _) ⟨w6.heap.size, 0, none⟩ 1 1 [.int .i64 e.1.1, .int .i64 e.1.2.1, .int .i64 e.1.2.2, .int .i64 e.2] rfl rfl (by
                have := World.ownsRow_lit (base := 0) (e := 52) (size := 4) w6 #[.int .i64 e.1.1, .int .i64 e.1.2.1, .int .i64 e.1.2.2, .int .i64 e.2] 1 (by omega) (by unfold maxLen; omega) rfl
                exact this.cells (g := w6.heap.size) (by simp [Value.ownBlock])) (by
                intro u hu
                simp only [List.mem_cons, List.not_mem_nil, or_false] at hu
                rcases hu with rfl | rfl | rfl | rfl <;> rfl) (by unfold maxLen; have := HM.out; have := HL.out; omega) (by have := HM.out; have := HL.out; omega) (by have := HG.out; simp; omega) ?_; intro v' w8 hown' hg8 hnil8 hloc8)
            have HZ := Lib.hid ((HR6.out.below (bA' (Below.refl _ w6) (Nat.le_refl _) (.cells #[.int .i64 e.1.1, .int .i64 e.1.2.1, .int .i64 e.1.2.2, .int .i64 e.2] 52))).turn.turn.growA hg8 hown' hloc8)
            refine ⟨⟨k + 1, rfl, HE.out.2, ?_, ?_⟩, by have := HE.out.2; simp [intOf]; omega⟩
            · refine Lib.hid ?_
              have hbb : Below W1.heap.size W1 (w6.alloc (.cells #[.int .i64 e.1.1, .int .i64 e.1.2.1, .int .i64 e.1.2.2, .int .i64 e.2] 52)) := bA' HB6.out HB6.out.size _
              exact hbb.grown hg8 hbb.size fun q e => (HR6.out.rc.lt q e).1
            · refine Lib.hid ?_
              rw [HS.out.1, HS.out.2.1, HS.out.2.2]
              exact HZ.out.turn
    · obtain rfl : k = L.length := by omega
      have hkz : ¬ ((L.length : Int) < (L.length : Int)) := by omega
      have hR := HR.out
      rw [List.take_length] at hR
      have H9 := Lib.hid (And.intro hR (bT' H1.out.1 HB.out H1.out.1.size))
      have hs9 := H1.out.2.2.1
      have HS9 := Lib.hid hs9
      clear hR hs9
      go_wp2
      exact bodyPost_ret (v := .tuple #[u7, u8, u9]) (by simp [results, Try.results16, go_sem]) rfl ⟨⟨_, _, _, rfl, ⟨ownsRow_low H9.out.1.ra (by have := HS9.out; omega), ownsRow_low H9.out.1.rb (by have := HS9.out; omega), ownsRow_low H9.out.1.rc (by have := HS9.out; omega), H9.out.1.ab, H9.out.1.ac, H9.out.1.bc⟩⟩, H9.out.2⟩
end Go.Proofs.Ytibphmddepfgjaa.Tr
