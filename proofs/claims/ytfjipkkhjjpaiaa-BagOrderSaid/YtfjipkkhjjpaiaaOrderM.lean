/-
  What the law BagOrder wants: a list appended to a new one, lists of numbers that are the same but for their order, stretches of a row. Conditions: those that each theorem states.
-/
import Derived.Test.YtfjipkkhjjpaiaaSortsC
import Derived.Test.YtfjipkkhjjpaiaaFrameB
namespace Go.Proofs.Ytfjipkkhjjpaiaa
open Go.RowKit Go.Shelf Go.Lib Go.Sort St

theorem appendNew_I (q : Option Addr) (c : Nat) (ys : List Int) (w : World) (hy : InList cI w q ys) (hlen : ys.length ≤ 1000000) :
    ∃ g cap W', (Builtin.append_ #[22, 22] 22 #[.slice (some ⟨w.heap.size, 0, none⟩) 0 0, .slice q ys.length c]).run Try.prog (w.alloc (.cells #[] 3)) = .ok (.slice (some ⟨g, 0, none⟩) ys.length cap) W' ∧
      RowIs cI 1 3 g ys.length cap W' ys ∧ w.heap.size ≤ g ∧ g < W'.heap.size ∧ Below w.heap.size w W' ∧ ys.length ≤ cap ∧ cap ≤ maxLen := by
  obtain ⟨i0, hi0, hz0, hz1, hz2⟩ := info_parts infoI
  have hb1 : Below w.heap.size w (w.alloc (.cells #[] 3)) := bA' (Below.refl _ _) (Nat.le_refl _) _
  have hown : (w.alloc (.cells #[] 3)).ownsRow w.heap.size 3 1 (.slice (some ⟨w.heap.size, 0, none⟩) 0 0) 0 [] := ⟨rfl, .inr ⟨w.heap.size, 0, #[], rfl, Nat.le_refl _, World.alloc_heap_new w _, Nat.le_refl _, Nat.zero_le _, rfl, rfl⟩⟩
  by_cases h0 : ys = []
  · subst h0
    exact ⟨w.heap.size, 0, _, run_append_zero (P := Try.prog) _ 22 22 3 i0 1 w.heap.size Try.underlying22 hi0 _ 0 _ hown q c, ⟨rfl, row_base hown⟩, Nat.le_refl _, by simp, hb1, Nat.zero_le _, Nat.zero_le _⟩
  · rcases hy with h | ⟨gl, off, rfl, hc⟩
    · exact absurd h h0
    · obtain ⟨v', W', hr, ho, hg, hnil⟩ := run_append_own (P := Try.prog) (w.alloc (.cells #[] 3)) w.heap.size 22 22 3 i0 (.int .i64 0) 1 8 Try.underlying22 hi0 hz0 hz1 hz2 rfl (by decide) _ 0 [] hown ⟨gl, off, none⟩ ys.length c (ys.flatMap cI) (flat_len cI_len ys) (fun j u hu => by
        have : (⟨gl, off, none⟩ : Addr).add j = ⟨gl, off + j, none⟩ := by unfold Addr.add; split <;> simp_all
        rw [this]
        exact kc' hb1 (hc j u hu)) (fun u hu => by
        obtain ⟨x, _, hx⟩ := List.mem_flatMap.1 hu
        exact cI_one x u hx) (by unfold maxLen; omega) (by omega) hb1.size
      simp only [Nat.zero_add, List.nil_append] at ho
      rcases id ho.2 with ⟨e, _⟩ | ⟨g, cap, cur, rfl, hB, h1, h2, h3, _⟩
      · exact absurd (hnil.1 e).1 (by simp)
      · exact ⟨g, cap, W', hr, ⟨rfl, row_base ho⟩, hB, (Array.getElem?_eq_some_iff.1 h1).1, hb1.grown hg hb1.size (fun k e => by simp [Value.ownBlock] at e; omega), h2, h3⟩

theorem wpList_append_run {P : Program} {ops : Array Oper} {rest : List Oper} {o : Oper} {a : Act} {w w' : World} {Q : Exit → Act → World → Prop} {v1 v2 v' : Value} (hgd : o.guard = none) (s x : Operand) (t : TypeId)
    (ho : o.op = .call { callee := .builtin .append, args := #[s, x], argTypes := #[t, t] }) (hs : a.eval s = v1) (hx : a.eval x = v2) (hr : (Builtin.append_ #[t, t] o.type #[v1, v2]).run P w = .ok v' w')
    (h : wpList P ops Q rest (a.put o.dst v') w') : wpList P ops Q (o :: rest) a w :=
  wpList_plain hgd fun _ hK => by
    unfold Oper.wp
    rw [exec_append s x t ho hs hx hr]
    exact hK _ _ h
theorem InList.bytes {W : World} {p : Option Addr} {ts : List Int} (h : InList cU W p ts) (h0 : 0 < ts.length) : ∃ gl off, p = some ⟨gl, off, none⟩ ∧ ∀ i (hi : i < ts.length), W.cell? ⟨gl, off + i, none⟩ = some (.int .u8 ts[i]) := by
  rcases h with rfl | ⟨gl, off, rfl, hc⟩
  · simp at h0
  · refine ⟨gl, off, rfl, fun i hi => hc i _ ?_⟩
    have := flat_get (c := cU) (sz := 1) (fun _ => rfl) ts i 0 hi (by omega)
    rw [Nat.mul_one, Nat.add_zero] at this
    rw [this]
    rfl
/-- What lies in a row is a list, wherever one begins. -/
theorem RowIs.list_from {g n cap r : Nat} {W : World} {M : List Int} (h : RowIs cI 1 3 g n cap W M) : InList cI W (some ⟨g, r, none⟩) (M.drop r) := by
  refine .inr ⟨g, r, rfl, fun j u hu => ?_⟩
  have h1 := (List.getElem?_eq_some_iff.1 hu).1
  rw [flat_len cI_len, List.length_drop, h.len, Nat.mul_one] at h1
  rw [h.row.cellAt (r + j) (by omega)]
  have h2 := flat_drop cI_len M r
  rw [Nat.mul_one] at h2
  rw [← h2, List.getElem?_drop] at hu
  exact hu
theorem RowIs.list_to {g n cap r : Nat} {W : World} {M : List Int} (h : RowIs cI 1 3 g n cap W M) (hr : r ≤ n) : InList cI W (some ⟨g, 0, none⟩) (M.take r) := by
  refine .inr ⟨g, 0, rfl, fun j u hu => ?_⟩
  have h1 := (List.getElem?_eq_some_iff.1 hu).1
  rw [flat_len cI_len, List.length_take, h.len, Nat.mul_one] at h1
  rw [Nat.zero_add, h.row.cellAt j (by omega)]
  have h2 := flat_take cI_len M r
  rw [Nat.mul_one] at h2
  rw [← h2, List.getElem?_take] at hu
  split at hu
  · exact hu
  · cases hu
/-- Of numbers, all of a key are one. -/
theorem filt_eq (xs : List Int) (k : Int) : xs.filter (fun x => x == k) = List.replicate (xs.countP (fun x => x == k)) k := by
  rw [List.eq_replicate_iff]
  exact ⟨(List.countP_eq_length_filter ..).symm, fun b hb => eq_of_beq (List.mem_filter.1 hb).2⟩
/-- A bag of numbers hangs on how often each is there alone. -/
theorem ins_perm {xs ys R S : List Int} (h : Ins (fun x : Int => x) [] xs R) (k : Ins (fun x : Int => x) [] ys S) (hp : xs.Perm ys) : R = S := by
  refine srt_unique R S (by rw [h.len, k.len]; simp [hp.length_eq]) h.srt k.srt fun i => ?_
  rw [h.flt, k.flt]
  simp only [List.filter_nil, List.nil_append]
  rw [filt_eq, filt_eq, hp.countP_eq]
theorem ins_merge {xs ys zs R S T : List Int} (h : Ins (fun x : Int => x) [] xs R) (k : Ins (fun x : Int => x) [] ys S) (m : Ins (fun x : Int => x) R S T) (hp : (xs ++ ys).Perm zs) : Ins (fun x : Int => x) [] zs T := by
  refine ⟨by rw [m.len, h.len, k.len]; simp [← hp.length_eq], m.srt, fun i => ?_⟩
  rw [m.flt, h.flt, k.flt]
  simp only [List.filter_nil, List.nil_append]
  rw [filt_eq zs, ← hp.countP_eq, ← filt_eq, List.filter_append]
theorem levels_self (xs : List Int) : levels_I xs xs = true := decide_eq_true rfl
end Go.Proofs.Ytfjipkkhjjpaiaa
