/-
  Plain mathematics of a binary heap: what taking an entry out, and setting one, comes to. No condition but those that each theorem states.
-/
import Derived.Test.YtngeinmpnjfhfaaHpM
namespace Go.Proofs.Ytngeinmpnjfhfaa.Hp

theorem set_perm {L : List It} {i : Nat} (h : i < L.length) (e : It) : (L.set i e).Perm (e :: L.eraseIdx i) := by
  rw [List.set_eq_take_append_cons_drop, if_pos h, List.eraseIdx_eq_take_drop_succ]
  exact List.perm_middle
theorem get_perm {L : List It} {i : Nat} (h : i < L.length) : L.Perm (g L i :: L.eraseIdx i) := by
  have := set_perm h (g L i)
  rwa [g_get h, List.set_getElem_self, ← g_get h] at this
theorem mkF_congr {F F' : List It} (lo : Nat) : ∀ (k : Nat) (m : Tab), (∀ i, i < k → g F i = g F' i) → mkF F lo k m = mkF F' lo k m := by
  intro k
  induction k using Nat.strongRecOn with
  | ind k ih =>
    intro m h
    rw [mkF.eq_def F, mkF.eq_def F']
    split
    · next hlt =>
      rw [h (k - 1) (by omega)]
      exact ih _ (by omega) _ fun i hi => h i (by omega)
    · rfl
theorem g_take {L : List It} {n i : Nat} (h : i < n) : g (L.take n) i = g L i := by simp [List.getD_eq_getElem?_getD, h]
theorem take_set_lt {L : List It} {n i : Nat} (e : It) : (L.set i e).take n = (L.take n).set i e := List.take_set
theorem sUp_take (t n : Nat) : ∀ (f : Nat) (X : List It), f < n → (sUp X f t).1.take n = (sUp (X.take n) f t).1 ∧ (sUp X f t).2 = (sUp (X.take n) f t).2 := by
  intro f
  induction f using Nat.strongRecOn with
  | ind f ih =>
    intro X hf
    rw [sUp.eq_def X, sUp.eq_def (X.take n)]
    split
    · next h =>
      have hu := up_lt (i := f) (by omega)
      have := ih _ hu (X.set f (g X (up f))) (by omega)
      rw [take_set_lt] at this
      rw [g_take (by omega)]
      exact this
    · exact ⟨rfl, rfl⟩
theorem sDn_take (f n : Nat) : ∀ (t : Nat) (X : List It) (e : It), t < n → (sDn X f t e).take n = sDn (X.take n) f t e := by
  intro t
  induction t using Nat.strongRecOn with
  | ind t ih =>
    intro X e ht
    rw [sDn.eq_def X, sDn.eq_def (X.take n)]
    split
    · next h =>
      have hu := up_lt (i := t) (by omega)
      rw [ih _ hu _ _ (by omega), take_set_lt, g_take (by omega)]
    · exact take_set_lt _
theorem shift_take {X : List It} {f t n : Nat} (e : It) (hf : f < n) (ht : t < n) : (shift X f t e).take n = shift (X.take n) f t e := by
  unfold shift
  rw [sDn_take _ _ _ _ _ ht, (sUp_take t n f X hf).1, (sUp_take t n f X hf).2]
theorem sUp_far (t j : Nat) : ∀ (f : Nat) (X : List It), f < j → g (sUp X f t).1 j = g X j ∧ (sUp X f t).2 ≤ f := by
  intro f
  induction f using Nat.strongRecOn with
  | ind f ih =>
    intro X hf
    rw [sUp.eq_def X]
    split
    · next h =>
      have hu := up_lt (i := f) (by omega)
      have := ih _ hu (X.set f (g X (up f))) (by omega)
      rw [g_set_ne _ (by omega)] at this
      exact ⟨this.1, by omega⟩
    · exact ⟨rfl, Nat.le_refl _⟩
theorem sDn_far (f j : Nat) : ∀ (t : Nat) (X : List It) (e : It), t < j → g (sDn X f t e) j = g X j := by
  intro t
  induction t using Nat.strongRecOn with
  | ind t ih =>
    intro X e ht
    rw [sDn.eq_def X]
    split
    · next h =>
      have hu := up_lt (i := t) (by omega)
      rw [ih _ hu _ _ (by omega), g_set_ne _ (by omega)]
    · exact g_set_ne _ (by omega)
theorem shift_far {X : List It} {f t j : Nat} (e : It) (hf : f < j) (ht : t < j) : g (shift X f t e) j = g X j := by
  unfold shift
  rw [sDn_far _ _ _ _ _ ht, (sUp_far t j f X hf).1]

theorem Ord.take {L : List It} (h : Ord L) (n : Nat) : Ord (L.take n) := by
  intro i h0 hi
  rw [List.length_take] at hi
  have := up_lt h0
  rw [g_take (by omega), g_take (by omega)]
  exact h i h0 (by omega)
theorem Ord.least {L : List It} (h : Ord L) : ∀ i, i < L.length → le (g L 0) (g L i) := by
  intro i
  induction i using Nat.strongRecOn with
  | ind i ih =>
    intro hi
    by_cases h0 : 0 < i
    · exact le_trans (ih _ (up_lt h0) (by have := up_lt h0; omega)) (h i h0 hi)
    · obtain rfl : i = 0 := by omega
      exact le_refl _

theorem keys_perm {L L' : List It} (h : L.Perm L') (hd : Dist L) : Dist L' := dist_iff.2 ((h.map Prod.fst).nodup_iff.1 (dist_iff.1 hd))
theorem dist_cons {x : It} {L : List It} (h : Dist (x :: L)) : Dist L ∧ ∀ y ∈ L, y.1 ≠ x.1 := by
  have := dist_iff.1 h
  rw [List.map_cons, List.nodup_cons] at this
  exact ⟨dist_iff.2 this.2, fun y hy e => this.1 (by rw [← e]; exact List.mem_map_of_mem hy)⟩
/-- Without a key. -/
abbrev sans (L : List It) (k : Int) : List It := L.filter fun x => !(x.1 == k)
theorem sans_of {L R : List It} {x : It} (h : L.Perm (x :: R)) (hd : Dist L) : R.Perm (sans L x.1) := by
  have h1 := h.filter (fun y => !(y.1 == x.1))
  rw [List.filter_cons_of_neg (by simp)] at h1
  have h2 : R.filter (fun y => !(y.1 == x.1)) = R := by
    rw [List.filter_eq_self]
    intro y hy
    have := (dist_cons (keys_perm h hd)).2 y hy
    simpa using this
  rw [h2] at h1
  exact h1.symm

def fillTo (X : List It) (a : Nat) : Nat := if a + 1 = X.length then a else goal (X.take (X.length - 1)) (g X (X.length - 1)) a
def fillL (X : List It) (a : Nat) : List It := if a + 1 = X.length then X else shift X a (fillTo X a) (g X (X.length - 1))
def taken (X : List It) (a : Nat) : List It := (fillL X a).take (X.length - 1)
theorem fillL_len (X : List It) (a : Nat) : (fillL X a).length = X.length := by
  unfold fillL
  split
  · rfl
  · exact shift_len _ _ _ _
theorem taken_len (X : List It) (a : Nat) : (taken X a).length = X.length - 1 := by
  unfold taken
  rw [List.length_take, fillL_len]
  omega
theorem take_ok {L : List It} {a : Nat} (ha : a < L.length) (ho : Ord L) (hd : Dist L) :
    fillTo L a < L.length ∧ Ord (taken L a) ∧ L.Perm (g L a :: taken L a) ∧ (∀ i, i < L.length → g (fillL L a) i ∈ L) ∧
      ∀ m, TabOf L m → TabOf (taken L a) (cut (mkF (fillL L a) (min a (fillTo L a)) (max a (fillTo L a) + 1) m) (g L a).1) := by
  obtain ⟨n, hn⟩ : ∃ n, L.length = n + 1 := ⟨L.length - 1, by omega⟩
  have hsplit : L = L.take n ++ [g L n] := by
    have h1 := List.take_append_drop n L
    rw [List.drop_eq_getElem_cons (by omega), List.drop_eq_nil_of_le (by omega), ← g_get] at h1
    exact h1.symm
  have hmem : ∀ i, i < L.length → g L i ∈ L := fun i hi => mem_g.2 ⟨i, hi, rfl⟩
  have tail : ∀ (F : List It) (lo k : Nat) (m : Tab), L.Perm (g L a :: F) → k ≤ F.length → TabOf L m → (∀ i, i < F.length → ¬ vis lo k i → g F i = g L i) → TabOf F (cut (mkF F lo k m) (g L a).1) := by
    intro F lo k m hp hk ht hv
    obtain ⟨hdF, hne⟩ := dist_cons (keys_perm hp hd)
    have hFl : F.length = n := by have := hp.length_eq; simp at this; omega
    refine ⟨fun i hi => ?_, fun x hx => ?_⟩
    · have h1 : (g F i).1 ≠ (g L a).1 := hne _ (mem_g.2 ⟨i, hi, rfl⟩)
      unfold cut
      rw [if_neg h1]
      refine mkF_in hdF lo k m hk i hi ?_
      by_cases h2 : vis lo k i
      · exact .inl h2
      · right
        rw [hv i hi h2]
        exact ht.here i (by omega)
    · unfold cut
      by_cases e : x = (g L a).1
      · rw [if_pos e]
      · rw [if_neg e, mkF_out lo x hx k m hk]
        refine ht.none x fun i hi h1 => ?_
        rcases List.mem_cons.1 (hp.mem_iff.1 (hmem i hi)) with h2 | h2
        · exact e (by rw [← h1, h2])
        · obtain ⟨j, hj, h3⟩ := mem_g.1 h2
          exact hx j hj (by rw [h3]; exact h1)
  by_cases hl : a + 1 = L.length
  · have e1 : fillTo L a = a := if_pos hl
    have e2 : fillL L a = L := if_pos hl
    have e3 : taken L a = L.take n := by unfold taken; rw [e2, hn]; rfl
    have han : a = n := by omega
    have hp : L.Perm (g L a :: L.take n) := by
      rw [han]
      conv => lhs; rw [hsplit]
      exact List.perm_append_comm
    rw [e1, e2, e3]
    refine ⟨ha, ho.take n, hp, hmem, fun m ht => ?_⟩
    have hTl : (L.take n).length = n := by rw [List.length_take]; omega
    have h1 := tail (L.take n) n n m hp (by omega) ht fun i hi _ => g_take (by omega)
    have h2 : cut (mkF L (min a a) (max a a + 1) m) (g L a).1 = cut (mkF (L.take n) n n m) (g L a).1 := by
      rw [Nat.min_self, Nat.max_self, mkF.eq_def L, dif_pos (by omega), mkF.eq_def L, dif_neg (by omega), mkF.eq_def (L.take n), dif_neg (Nat.lt_irrefl _), Nat.add_sub_cancel]
      funext x
      unfold cut ins
      by_cases e : x = (g L a).1
      · rw [if_pos e, if_pos e]
      · rw [if_neg e, if_neg e, if_neg e]
    rw [h2]
    exact h1
  · have hlt : a < n := by omega
    have hTl : (L.take n).length = n := by rw [List.length_take]; omega
    have e1 : fillTo L a = goal (L.take n) (g L n) a := by unfold fillTo; rw [if_neg hl, hn]; rfl
    obtain ⟨g1, g2, g3, g4⟩ := goal_shift (L.take n) (g L n) a ((ho.take n).hole a (by omega)) (by omega)
    obtain ⟨t, ht⟩ : ∃ t, goal (L.take n) (g L n) a = t := ⟨_, rfl⟩
    rw [ht] at e1 g1 g2 g3 g4
    rw [hTl] at g1
    have e2 : fillL L a = shift L a t (g L n) := by unfold fillL; rw [if_neg hl, e1, hn]; rfl
    have e3 : taken L a = shift (L.take n) a t (g L n) := by unfold taken; rw [e2, hn, Nat.add_sub_cancel, shift_take _ hlt g1]
    have hgat : g (L.take n) a = g L a := g_take hlt
    have hp : L.Perm (g L a :: shift (L.take n) a t (g L n)) := by
      have p1 : L.Perm (g L n :: L.take n) := by
        conv => lhs; rw [hsplit]
        exact List.perm_append_comm
      have p2 := get_perm (L := L.take n) (i := a) (by omega)
      rw [hgat] at p2
      have p3 := g3.trans (set_perm (L := L.take n) (i := a) (by omega) (g L n))
      exact p1.trans ((p2.cons _).trans ((List.Perm.swap _ _ _).trans (p3.symm.cons _)))
    rw [e1, e2, e3]
    have hFl : (shift (L.take n) a t (g L n)).length = n := by rw [shift_len, hTl]
    have hmF : ∀ i, i < n → g (shift L a t (g L n)) i = g (shift (L.take n) a t (g L n)) i := fun i hi => by rw [← shift_take _ hlt g1, g_take hi]
    refine ⟨by omega, g2, hp, fun i hi => ?_, fun m htab => ?_⟩
    · by_cases hin : i < n
      · rw [hmF i hin]
        exact hp.mem_iff.2 (List.mem_cons_of_mem _ (mem_g.2 ⟨i, by omega, rfl⟩))
      · obtain rfl : i = n := by omega
        rw [shift_far _ hlt g1]
        exact hmem _ hi
    · rw [mkF_congr (F' := shift (L.take n) a t (g L n)) _ _ _ fun i hi => hmF i (by omega)]
      refine tail _ _ _ m hp (by omega) htab fun i hi hv => ?_
      rw [g4 i hv, g_take (by omega)]

/-- What setting comes to: where the key is. -/
theorem set_there {L : List It} {a : Nat} {e : It} {m : Tab} (ho : Ord L) (ht : TabOf L m) (hm : m e.1 = some a) :
    a < L.length ∧ goal L e a < L.length ∧ Ord (shift L a (goal L e a) e) ∧ (shift L a (goal L e a) e).Perm (e :: sans L e.1) ∧ TabOf (shift L a (goal L e a) e) (mkF (shift L a (goal L e a) e) (min a (goal L e a)) (max a (goal L e a) + 1) m) := by
  obtain ⟨ha, hk⟩ := ht.some hm
  obtain ⟨g1, g2, g3, g4⟩ := goal_shift L e a (ho.hole a ha) ha
  have hp := get_perm ha
  have hs : (L.eraseIdx a).Perm (sans L e.1) := by
    have := sans_of hp ht.dist
    rwa [hk] at this
  have hpe := g3.trans ((set_perm ha e).trans (hs.cons e))
  have hkeys : (L.set a e).map Prod.fst = L.map Prod.fst := by
    rw [List.map_set, ← hk, g_get ha]
    apply List.ext_getElem
    · simp
    · intro i h1 h2
      rw [List.getElem_set]
      split
      · next h => subst h; simp
      · rfl
  have hdF : Dist (shift L a (goal L e a) e) := dist_iff.2 ((g3.map Prod.fst).nodup_iff.2 (by rw [hkeys]; exact dist_iff.1 ht.dist))
  have hlen := shift_len L a (goal L e a) e
  refine ⟨ha, g1, g2, hpe, ⟨fun i hi => ?_, fun x hx => ?_⟩⟩
  · refine mkF_in hdF _ _ m (by omega) i hi ?_
    by_cases h2 : vis (min a (goal L e a)) (max a (goal L e a) + 1) i
    · exact .inl h2
    · right
      rw [g4 i h2]
      exact ht.here i (by omega)
  · rw [mkF_out _ x hx _ m (by omega)]
    refine ht.none x fun i hi h1 => ?_
    have h2 : (g L i).1 ∈ (shift L a (goal L e a) e).map Prod.fst := by
      rw [(g3.map Prod.fst).mem_iff, hkeys]
      exact List.mem_map_of_mem (mem_g.2 ⟨i, hi, rfl⟩)
    obtain ⟨y, hy, h3⟩ := List.mem_map.1 h2
    obtain ⟨j, hj, rfl⟩ := mem_g.1 hy
    exact hx j hj (by rw [h3]; exact h1)
theorem g_app {L : List It} {i : Nat} (e : It) (h : i < L.length) : g (L ++ [e]) i = g L i := by simp [List.getD_eq_getElem?_getD, List.getElem?_append_left h]
theorem gUp_app (L : List It) (x e : It) : ∀ t, t ≤ L.length → gUp (L ++ [x]) e t = gUp L e t := by
  intro t
  induction t using Nat.strongRecOn with
  | ind t ih =>
    intro hl
    rw [gUp.eq_def (L ++ [x]), gUp.eq_def L]
    by_cases h0 : 0 < t
    · have hu := up_lt h0
      rw [g_app x (by omega), ih _ hu (by omega)]
    · rw [dif_neg (fun h => h0 h.1), dif_neg (fun h => h0 h.1)]
theorem goal_app (L : List It) (x e : It) : goal (L ++ [x]) e L.length = goal L e L.length := by
  unfold goal
  rw [gUp_app L x e _ (Nat.le_refl _)]
  by_cases h : gUp L e L.length < L.length
  · rw [if_pos h, if_pos h]
  · rw [if_neg h, if_neg h]
    have he : gUp L e L.length = L.length := by have := gUp_le L e L.length; omega
    rw [he, gDn.eq_def (L ++ [x]), gDn.eq_def L]
    have h1 := (up_lessr (L ++ [x]) L.length).2
    have h2 := (up_lessr L L.length).2
    have h3 : ¬ lessr (L ++ [x]) L.length < (L ++ [x]).length := by simp; omega
    rw [dif_neg (fun k => h3 k.1), dif_neg (fun k => by omega)]
/-- .. where it isn't. -/
theorem set_new {L : List It} {e : It} {m : Tab} (ho : Ord L) (ht : TabOf L m) (hm : m e.1 = none) :
    goal L e L.length < L.length + 1 ∧ Ord (shift (L ++ [e]) L.length (goal L e L.length) e) ∧ (shift (L ++ [e]) L.length (goal L e L.length) e).Perm (e :: sans L e.1) ∧
      TabOf (shift (L ++ [e]) L.length (goal L e L.length) e) (mkF (shift (L ++ [e]) L.length (goal L e L.length) e) (min L.length (goal L e L.length)) (max L.length (goal L e L.length) + 1) m) := by
  have hl : (L ++ [e]).length = L.length + 1 := by simp
  obtain ⟨g1, g2, g3, g4⟩ := goal_shift (L ++ [e]) e L.length (ho.hole_end e) (by omega)
  rw [goal_app] at g1 g2 g3 g4
  have hno : ∀ y ∈ L, y.1 ≠ e.1 := by
    intro y hy h1
    obtain ⟨i, hi, rfl⟩ := mem_g.1 hy
    have := ht.here i hi
    rw [h1, hm] at this
    cases this
  have hsn : sans L e.1 = L := by
    rw [List.filter_eq_self]
    intro y hy
    simpa using hno y hy
  have hset : (L ++ [e]).set L.length e = L ++ [e] := by
    rw [List.set_append_right _ _ (Nat.le_refl _)]
    simp
  rw [hset] at g3
  have hpe : (shift (L ++ [e]) L.length (goal L e L.length) e).Perm (e :: L) := g3.trans List.perm_append_comm
  have hdF : Dist (shift (L ++ [e]) L.length (goal L e L.length) e) := by
    refine keys_perm hpe.symm (dist_iff.2 ?_)
    rw [List.map_cons, List.nodup_cons]
    refine ⟨fun h => ?_, dist_iff.1 ht.dist⟩
    obtain ⟨y, hy, h1⟩ := List.mem_map.1 h
    exact hno y hy h1
  have hlen := shift_len (L ++ [e]) L.length (goal L e L.length) e
  refine ⟨by omega, g2, by rw [hsn]; exact hpe, ⟨fun i hi => ?_, fun x hx => ?_⟩⟩
  · refine mkF_in hdF _ _ m (by omega) i hi ?_
    by_cases h2 : vis (min L.length (goal L e L.length)) (max L.length (goal L e L.length) + 1) i
    · exact .inl h2
    · right
      have hin : i < L.length := by
        rcases Nat.lt_or_ge i L.length with h | h
        · exact h
        · exfalso
          apply h2
          rw [vis, dif_pos (by omega)]
          exact .inl (by omega)
      rw [g4 i h2, g_app e hin]
      exact ht.here i hin
  · rw [mkF_out _ x hx _ m (by omega)]
    refine ht.none x fun i hi h1 => ?_
    obtain ⟨j, hj, h2⟩ := mem_g.1 (hpe.mem_iff.2 (List.mem_cons_of_mem _ (mem_g.2 ⟨i, hi, rfl⟩)))
    exact hx j hj (by rw [h2]; exact h1)
end Go.Proofs.Ytngeinmpnjfhfaa.Hp
