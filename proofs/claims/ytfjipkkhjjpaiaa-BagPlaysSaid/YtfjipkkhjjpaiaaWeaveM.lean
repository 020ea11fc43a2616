/-
  Plain mathematics of weaving a sorted list into a sorted list from the back. No condition but those that each theorem states.
-/
import Derived.Test.YtfjipkkhjjpaiaaStabM
namespace Go.Proofs.Ytfjipkkhjjpaiaa.St
variable {α : Type}

/-- Where one stands so far: what lies from the back on. -/
structure Back (key : α → Int) (xs ys : List α) (e i : Nat) (S : List α) : Prop where
  len : S.length = (xs.length - e) + (ys.length - i)
  srt : S.Pairwise (fun x y => key x ≤ key y)
  flt : ∀ k : Int, S.filter (fun x => key x == k) = (xs.drop e).filter (fun x => key x == k) ++ (ys.drop i).filter (fun x => key x == k)
theorem Back.start (key : α → Int) (xs ys : List α) : Back key xs ys xs.length ys.length [] := ⟨by simp, .nil, fun k => by simp⟩
theorem Back.mem {key : α → Int} {xs ys : List α} {e i : Nat} {S : List α} (h : Back key xs ys e i S) {x : α} (hx : x ∈ S) : x ∈ xs.drop e ∨ x ∈ ys.drop i := by
  have h1 : x ∈ S.filter (fun z => key z == key x) := by simp [hx]
  rw [h.flt, List.mem_append, List.mem_filter, List.mem_filter] at h1
  exact h1.imp (·.1) (·.1)
/-- How a list stands to a thing: those ahead of the place are not above it, those from it on are. -/
def Behind (key : α → Int) (xs : List α) (y : α) (p : Nat) : Prop := p ≤ xs.length ∧ (∀ x ∈ xs.take p, key x ≤ key y) ∧ ∀ x ∈ xs.drop p, key y < key x
theorem mem_take_mono {xs : List α} {p q : Nat} (h : p ≤ q) {x : α} (hx : x ∈ xs.take p) : x ∈ xs.take q := (List.take_prefix_take_left h).subset hx
theorem Behind.mono {key : α → Int} {xs : List α} {y z : α} {p q : Nat} (hp : Behind key xs y p) (hq : Behind key xs z q) (h : key y ≤ key z) : p ≤ q := by
  by_cases hlt : q < p
  · have hm : xs[q]'(by have := hp.1; omega) ∈ xs.take p := List.mem_take_iff_getElem.2 ⟨q, by have := hp.1; omega, rfl⟩
    have hd : xs[q]'(by have := hp.1; omega) ∈ xs.drop q := List.mem_drop_iff_getElem.2 ⟨0, by have := hp.1; omega, by simp⟩
    have h1 := hp.2.1 _ hm
    have h2 := hq.2.2 _ hd
    omega
  · omega
theorem seg_split (xs : List α) {p e : Nat} (h : p ≤ e) : xs.drop p = (xs.drop p).take (e - p) ++ xs.drop e := by
  have := List.take_append_drop (e - p) (xs.drop p)
  rwa [List.drop_drop, show p + (e - p) = e from by omega, eq_comm] at this
theorem Back.step {key : α → Int} {xs ys : List α} {e i p : Nat} {S : List α} {y : α} (h : Back key xs ys e (i + 1) S) (hi : ys[i]? = some y) (hpe : p ≤ e) (he : e ≤ xs.length) (hp : Behind key xs y p)
    (hxs : xs.Pairwise (fun x y => key x ≤ key y)) (hys : ys.Pairwise (fun x y => key x ≤ key y)) (hafter : ∀ z ∈ ys.drop (i + 1), ∀ x ∈ xs.take e, key x ≤ key z) :
    Back key xs ys p i (y :: ((xs.drop p).take (e - p) ++ S)) := by
  obtain ⟨hlt, hget⟩ := List.getElem?_eq_some_iff.1 hi
  have hdy : ys.drop i = y :: ys.drop (i + 1) := by rw [List.drop_eq_getElem_cons hlt, hget]
  have hseg := seg_split xs hpe
  have hmin : ∀ x ∈ (xs.drop p).take (e - p) ++ S, key y ≤ key x := by
    intro x hx
    rcases List.mem_append.1 hx with hx | hx
    · exact Int.le_of_lt (hp.2.2 x (List.mem_of_mem_take hx))
    · rcases h.mem hx with hx | hx
      · exact Int.le_of_lt (hp.2.2 x (by rw [hseg]; exact List.mem_append_right _ hx))
      · have hq : (ys.drop i).Pairwise (fun x y => key x ≤ key y) := hys.sublist (List.drop_sublist _ _)
        rw [hdy] at hq
        exact (List.pairwise_cons.1 hq).1 x hx
  refine ⟨?_, List.pairwise_cons.2 ⟨hmin, List.pairwise_append.2 ⟨(hxs.sublist (List.drop_sublist _ _)).sublist (List.take_sublist _ _), h.srt, fun a ha b hb => ?_⟩⟩, fun k => ?_⟩
  · rw [List.length_cons, List.length_append, List.length_take, List.length_drop, h.len]
    omega
  · rcases h.mem hb with hb | hb
    · have hq : (xs.drop p).Pairwise (fun x y => key x ≤ key y) := hxs.sublist (List.drop_sublist _ _)
      rw [hseg] at hq
      exact (List.pairwise_append.1 hq).2.2 a ha b hb
    · refine hafter b hb a ?_
      have : (xs.drop p).take (e - p) = (xs.take e).drop p := by rw [List.drop_take]
      rw [this] at ha
      exact List.mem_of_mem_drop ha
  · rw [List.filter_cons, List.filter_append, h.flt, hdy, List.filter_cons]
    have e1 : (xs.drop p).filter (fun x => key x == k) = ((xs.drop p).take (e - p)).filter (fun x => key x == k) ++ (xs.drop e).filter (fun x => key x == k) := by
      conv => lhs; rw [hseg]
      rw [List.filter_append]
    by_cases hk : (key y == k) = true
    · rw [if_pos hk, if_pos hk, e1]
      have hz : (xs.drop p).filter (fun x => key x == k) = [] := by
        rw [List.filter_eq_nil_iff]
        intro x hx hxk
        have := hp.2.2 x hx
        have a1 : key x = k := by simpa using hxk
        have a2 : key y = k := by simpa using hk
        omega
      rw [e1] at hz
      obtain ⟨z1, z2⟩ := List.append_eq_nil_iff.1 hz
      rw [z1, z2]
      simp
    · rw [if_neg hk, if_neg hk, e1]
      simp
/-- The row in the midst of it. -/
structure Mid (xs : List α) (e i : Nat) (S R : List α) : Prop where
  split : ∃ J : List α, R = xs.take e ++ (J ++ S) ∧ J.length = i
/-- The stretch is moved, and the thing is laid ahead of it. -/
theorem Mid.step {xs S R : List α} {e i p : Nat} {y : α} (h : Mid xs e (i + 1) S R) (hpe : p ≤ e) (he : e ≤ xs.length) :
    (R.drop p).take (e - p) = (xs.drop p).take (e - p) ∧ p + i + 1 + (e - p) ≤ R.length ∧
    Mid xs p i (y :: ((xs.drop p).take (e - p) ++ S)) ((R.take (p + i + 1) ++ ((xs.drop p).take (e - p) ++ R.drop (p + i + 1 + (e - p)))).set (p + i) y) := by
  obtain ⟨J, rfl, hJ⟩ := h.split
  have l1 : (xs.take e).length = e := by rw [List.length_take]; omega
  refine ⟨?_, by simp only [List.length_append, l1]; omega, ⟨⟨(((xs.take e ++ (J ++ S)).take (p + i)).drop p), ?_, ?_⟩⟩⟩
  · rw [List.drop_append_of_le_length (by omega), List.take_append_of_le_length (by rw [List.length_drop]; omega), List.drop_take, List.take_take]
    congr 1
    omega
  · have d1 : (xs.take e ++ (J ++ S)).drop (p + i + 1 + (e - p)) = S := by
      rw [← List.append_assoc, List.drop_append_of_le_length (by simp only [List.length_append, l1]; omega)]
      rw [List.drop_eq_nil_of_le (by simp only [List.length_append, l1]; omega)]
      rfl
    rw [d1]
    generalize hR : xs.take e ++ (J ++ S) = R
    have lR : p + i + 1 ≤ R.length := by rw [← hR]; simp only [List.length_append, l1]; omega
    have t1 : R.take p = xs.take p := by
      rw [← hR, List.take_append_of_le_length (by omega), List.take_take]
      congr 1
      omega
    rw [List.set_append_left _ _ (by rw [List.length_take]; omega)]
    have t2 : (R.take (p + i + 1)).set (p + i) y = R.take (p + i) ++ [y] := by
      apply List.ext_getElem?
      intro q
      rw [List.getElem?_set, List.length_take, List.getElem?_append, List.length_take, List.getElem?_take, List.getElem?_take]
      by_cases c1 : p + i = q
      · subst c1
        rw [if_pos rfl, if_pos (by omega), if_neg (by omega), show p + i - min (p + i) R.length = 0 from by omega]
        rfl
      · rw [if_neg c1]
        by_cases c2 : q < p + i
        · rw [if_pos (by omega), if_pos (by omega), if_pos c2]
        · rw [if_neg (by omega), if_neg (by omega), List.getElem?_eq_none (by simp; omega)]
    rw [t2]
    have t3 : R.take (p + i) = xs.take p ++ (R.take (p + i)).drop p := by
      rw [← t1]
      have := List.take_append_drop p (R.take (p + i))
      rw [List.take_take, show min p (p + i) = p from by omega] at this
      exact this.symm
    conv => lhs; rw [t3]
    simp
  · rw [List.length_drop, List.length_take]
    simp only [List.length_append, l1]
    omega
end Go.Proofs.Ytfjipkkhjjpaiaa.St
