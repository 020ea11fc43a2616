/-
  slices.Delete of the end of a list of entries, parts of a list that are gone over, over this seat's translation. Conditions: those that each theorem states.
-/
import Derived.Test.YtibphmddepfgjaaT7J
namespace Go.Proofs.Ytibphmddepfgjaa.Tr
open Go.RowKit Go.Shelf Go.Lib Go.Sort

theorem run_append_none {P : Program} (w : World) (t ty e : TypeId) (i : TypeInfo) (ht : P.underlying t = some (.slice e)) (hi : P.info? e = some i) (b : Addr) (n cap : Nat) (hnc : n ≤ cap) (a : Option Addr) (c : Nat) :
    (Builtin.append_ #[t, t] ty #[.slice (some b) n cap, .slice a 0 c]).run P w = .ok (.slice (some b) n cap) w := by
  have hl : ∀ (x : Addr), (loadCells x 0).run P w = .ok #[] w := fun x => by simpa using run_loadCells_list (P := P) w x [] (by simp)
  cases a <;> simp [Builtin.append_, run_underlying ht, sizeOf, typeInfo, hi, Builtin.lenOf, Builtin.firstCells, hnc, storeCells, hl]
/-- The end cut off. -/
theorem ents_take {W W' : World} {g off cap n : Nat} {cur : Array Value} {L : List En} (hn : n < L.length) (h1 : L.length ≤ cap) (h3 : cur.size = off + cap * 4) (h4 : ∀ (j : Nat) (u : Value), (L.flatMap cE)[j]? = some u → cur[off + j]? = some u)
    (hc : Clr g (off + n * 4) (L.length - n) cur W W') : Ents W' (.slice (some ⟨g, off, none⟩) n cap) (L.take n) (some g) := by
  obtain ⟨cur', q1, q2, q3⟩ := hc.row
  refine .inr ⟨g, off, cap, cur', by rw [List.length_take, Nat.min_eq_left (by omega)], rfl, by omega, by rw [List.length_take]; omega, q1, by omega, fun j u hu => ?_⟩
  have hj := (List.getElem?_eq_some_iff.1 hu).1
  rw [flat_len, List.length_take, Nat.min_eq_left (by omega)] at hj
  rw [q3 _ (.inl (by omega))]
  refine h4 j u ?_
  rw [← _root_.Go.Proofs.Ytibphmddepfgjaa.flat_take cE_len, List.getElem?_take, if_pos hj] at hu
  exact hu

set_option maxHeartbeats 8000000 in
set_option maxRecDepth 100000 in
theorem delete_c {W : World} {v : Value} {L : List En} {G : Option Nat} (h : Ents W v L G) (n : Nat) (hn : n ≤ L.length) (hl : L.length ≤ 2000000) :
    Calls Try.prog 31 #[v, .int .i64 (n : Int), .int .i64 (L.length : Int)] W fun e W' => ∃ p c, e = .returned (.slice p n c) ∧ Ents W' (.slice p n c) (L.take n) G ∧ Leaves (fun y => G = some y) W W' := by
  obtain ⟨pv, cv, hv, hfl, hlc⟩ := h.slice
  by_cases hnl : n = L.length
  · have hd : decide ((n : Int) = (L.length : Int)) = true := decide_eq_true (by omega)
    have hd2 : ((n : Int) == (L.length : Int)) = true := by rw [beq_iff_eq]; omega
    have HE := Lib.hid (show Ents W (.slice pv n cv) (L.take n) G from by rw [List.take_of_length_le (by omega), hnl, ← hv]; exact h)
    rw [hv]
    obtain ⟨l, hll⟩ : ∃ l, L.length = l := ⟨_, rfl⟩
    rw [hll] at hd hd2 hlc hn ⊢
    have hnl2 : n = l := by omega
    have HB := Lib.hid (Leaves.of (F := fun y => G = some y) (Below.refl W.heap.size W))
    have hll2 : l ≤ cv := hlc
    clear h hfl hv hl hll hnl
    subst hnl2
    go_enter Try.func31, Try.ntmps31
    go_wp2
    all_goals go_ret
    all_goals exact ⟨pv, cv, rfl, HE.out, HB.out⟩
  · have hlt : n < L.length := by omega
    rcases h with ⟨p, e1, e2, _⟩ | ⟨g, off, cap, cur, rfl, eG, h0, h1, h2, h3, h4⟩
    · rw [e2] at hlt
      exact absurd hlt (Nat.not_lt_zero _)
    · obtain ⟨i0, hi0, hz0, hz1, hz2⟩ := info_parts infoEn
      obtain ⟨W2, q1, q2⟩ := clear_ents (W := W.drew) (g := g) (o := off + n * 4) (n := L.length - n) (cap - n) 0 h2 (by omega) (by omega)
      have hlv : Leaves (fun y => G = some y) W W2 := ⟨q2.os, q2.tape, q2.output, by rw [q2.size]; exact Nat.le_refl _, fun b hb hn => q2.block b fun e => hn (by rw [eG, e])⟩
      have HE := Lib.hid (And.intro (eG ▸ ents_take hlt h1 h3 h4 q2) hlv)
      have hap := fun (a : Option Addr) (c : Nat) (w : World) => run_append_none (P := Try.prog) w 64 64 71 i0 Try.underlying64 hi0 ⟨g, off, none⟩ n cap (by omega) a c
      obtain ⟨l, hll⟩ : ∃ l, L.length = l := ⟨_, rfl⟩
      rw [hll] at hlt h1 hl q1 ⊢
      have hne : decide ((n : Int) = (l : Int)) = false := decide_eq_false (by omega)
      have hne2 : ((n : Int) == (l : Int)) = false := by rw [beq_eq_false_iff_ne]; omega
      have hln : ¬ l = n := by omega
      have hcn : ¬ cap = n := by omega
      have hnz : (n : Int) ≤ (l : Int) := by omega
      have hn0 : n ≤ l := by omega
      have hlc2 : l ≤ cap := h1
      have hnc : n ≤ cap := by omega
      have HAP := Lib.hid hap
      clear h2 h3 h4 hlv q2 eG hll hfl hv hlc hn hnl hap h1
      go_enter Try.func31, Try.ntmps31
      go_wp2_with fail
      go_region_law (first | (refine step_append_run rfl (.tmp 22) (.tmp 25) 64 rfl (v1 := .slice (some ⟨g, off, none⟩) n cap) (v2 := sliced (some ⟨g, off, none⟩) l l cap 4) (by simp [Act.eval, Act.put]) (by simp [Act.eval, Act.put, sliced, Addr.add_lit]) (by unfold sliced; rw [Nat.sub_self]; exact HAP.out _ _ _) ?_))
      all_goals go_wp2
      all_goals go_ret
      all_goals (first | exact ⟨_, _, rfl, HE.out⟩ | (have hcj : cap = l := by assumption
                                                      subst hcj
                                                      exact ⟨_, _, rfl, HE.out⟩))
/-- A part of a list in memory that a row keeps. -/
theorem ents_sub {W : World} {v : Value} {L : List En} {G : Option Nat} {pv : Option Addr} {cv n B : Nat} (h : Ents W v L G) (hv : v = .slice pv L.length cv) (hB : W.heap.size ≤ B) : SafeL (fun b o => o.isCells = true ∧ b < B) W (if cv = n then pv else pv.map (fun x => x.add (n * 4))) (L.drop n) := by
  rcases h with ⟨p, e, rfl, _⟩ | ⟨g, off, cap, cur, e, eG, h0, h1, h2, h3, h4⟩
  · exact .inl (by simp)
  · have e2 := hv.symm.trans e
    simp at e2
    obtain ⟨rfl, rfl⟩ := e2
    by_cases hc : L.drop n = []
    · exact .inl hc
    · have hlt : n < L.length := by
        refine Nat.lt_of_not_le fun h1 => hc ?_
        exact List.drop_eq_nil_of_le h1
      rw [if_neg (by omega)]
      refine .inr ⟨g, off + n * 4, _, by simp [addE], h2, ⟨rfl, Nat.lt_of_lt_of_le (Array.getElem?_eq_some_iff.1 h2).1 hB⟩, fun j u hu => ?_⟩
      rw [cell_of_row W g _ cur _ (0, 0) h2, Nat.add_assoc]
      refine h4 _ u ?_
      rw [← _root_.Go.Proofs.Ytibphmddepfgjaa.flat_drop cE_len, List.getElem?_drop] at hu
      exact hu
theorem ents_pre {W : World} {v : Value} {L : List En} {G : Option Nat} {pv : Option Addr} {cv n B : Nat} (h : Ents W v L G) (hv : v = .slice pv L.length cv) (hB : W.heap.size ≤ B) : SafeL (fun b o => o.isCells = true ∧ b < B) W pv (L.take n) := by
  rcases h with ⟨p, e, rfl, _⟩ | ⟨g, off, cap, cur, e, eG, h0, h1, h2, h3, h4⟩
  · exact .inl (by simp)
  · have e2 := hv.symm.trans e
    simp at e2
    obtain ⟨rfl, rfl⟩ := e2
    refine .inr ⟨g, off, _, rfl, h2, ⟨rfl, Nat.lt_of_lt_of_le (Array.getElem?_eq_some_iff.1 h2).1 hB⟩, fun j u hu => ?_⟩
    rw [cell_of_row W g _ cur _ (0, 0) h2]
    refine h4 _ u ?_
    rw [← _root_.Go.Proofs.Ytibphmddepfgjaa.flat_take cE_len, List.getElem?_take] at hu
    split at hu
    · exact hu
    · cases hu
theorem SafeL.keep {W W' : World} {B : Nat} {p : Option Addr} {L : List En} (h : SafeL (fun b o => o.isCells = true ∧ b < B) W p L) (hb : Below W.heap.size W W') {B' : Nat} (hB : B ≤ B') : SafeL (fun b o => o.isCells = true ∧ b < B') W' p L := by
  rcases h with h | ⟨g, off, o, e, h1, h2, h3⟩
  · exact .inl h
  · exact .inr ⟨g, off, o, e, kbE h1 hb, ⟨h2.1, by omega⟩, fun j u hu => kc' hb (h3 j u hu)⟩
/-- A row of numbers of one's own is a list in memory. -/
theorem ints_in {W : World} {B : Nat} {v : Value} {X : List Int} (h : W.ownsRow B 3 1 v X.length (X.map fun x => Value.int .i64 x)) : ∃ p cap, v = .slice p X.length cap ∧ InList cIn W p X ∧ ∀ g off, p = some ⟨g, off, none⟩ → X ≠ [] → B ≤ g := by
  have hfm : X.map (fun x => Value.int .i64 x) = X.flatMap cIn := by
    induction X with
    | nil => rfl
    | cons a X ih =>
      clear ih
      simp only [List.map_cons, List.flatMap_cons, cIn]
      congr 1
      clear h
      induction X with
      | nil => rfl
      | cons b Y ih => simp only [List.map_cons, List.flatMap_cons, cIn]; rw [ih]; rfl
  rcases id h.2 with ⟨e, e2⟩ | ⟨g, cap, cur, e, hB, hg, rest⟩
  · exact ⟨none, 0, by rw [e, e2], .inl (List.eq_nil_of_length_eq_zero e2), fun g off e3 => by cases e3⟩
  · refine ⟨some ⟨g, 0, none⟩, cap, e, .inr ⟨g, 0, rfl, fun j u hu => ?_⟩, fun g2 off e3 _ => ?_⟩
    · rw [← hfm] at hu
      have hc := h.cells (g := g) (by rw [e]; rfl) j u hu
      rw [addE] at hc
      exact hc
    · simp at e3
      rw [← e3.1]
      exact hB
end Go.Proofs.Ytibphmddepfgjaa.Tr
