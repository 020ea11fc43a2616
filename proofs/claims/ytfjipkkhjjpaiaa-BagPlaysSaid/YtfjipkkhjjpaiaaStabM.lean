/-
  Plain mathematics of a stable sort by swaps: arrays told place by place, what stays of those that are level, rotations, merges. No condition but those that each theorem states.
-/
import Derived.Sort.Defs
import Derived.Sort.Lot0
import Derived.Sort.LotA
namespace Go.Proofs.Ytfjipkkhjjpaiaa.St
open Go.Sort
variable {α : Type} [Inhabited α]

/-- Those of a key, in their order, are the same. -/
def Stb (key : α → Int) (d d' : Array α) : Prop := d'.size = d.size ∧ ∀ k : Int, d'.toList.filter (fun x => key x == k) = d.toList.filter (fun x => key x == k)
omit [Inhabited α] in
theorem Stb.refl (key : α → Int) (d : Array α) : Stb key d d := ⟨rfl, fun _ => rfl⟩
omit [Inhabited α] in
theorem Stb.trans {key : α → Int} {a b c : Array α} (h : Stb key a b) (k : Stb key b c) : Stb key a c := ⟨k.1.trans h.1, fun x => (k.2 x).trans (h.2 x)⟩
/-- Two stretches change places. -/
def IsRot (a m b : Nat) (d d' : Array α) : Prop := d'.size = d.size ∧ ∀ i, d'[i]! = if a ≤ i ∧ i < a + (b - m) then d[i + (m - a)]! else if a + (b - m) ≤ i ∧ i < b then d[i - (b - m)]! else d[i]!
theorem IsRot.nil {a m : Nat} (d : Array α) : IsRot a m m d d := ⟨rfl, fun i => by
  rw [if_neg (by omega)]
  split
  · congr 1
    omega
  · rfl⟩
theorem IsRot.nil' {m b : Nat} (d : Array α) : IsRot m m b d d := ⟨rfl, fun i => by
  split
  · congr 1
    omega
  · rw [if_neg (by omega)]⟩
theorem getD_toList (d : Array α) (i : Nat) (h : i < d.size) : d.toList[i]? = some d[i]! := by
  rw [Array.getElem?_toList, Array.getElem?_eq_getElem h, getElem!_pos d i h]
omit [Inhabited α] in
theorem part4 (l : List α) {a m b : Nat} (h1 : a ≤ m) (h2 : m ≤ b) : l = l.take a ++ ((l.drop a).take (m - a) ++ ((l.drop m).take (b - m) ++ l.drop b)) := by
  have e1 : (l.drop m).take (b - m) ++ l.drop b = l.drop m := by
    have h := List.take_append_drop (b - m) (l.drop m)
    rwa [List.drop_drop, show m + (b - m) = b from by omega] at h
  have e2 : (l.drop a).take (m - a) ++ l.drop m = l.drop a := by
    have h := List.take_append_drop (m - a) (l.drop a)
    rwa [List.drop_drop, show a + (m - a) = m from by omega] at h
  rw [e1, e2, List.take_append_drop]
omit [Inhabited α] in
theorem seg_get {l : List α} {a n i : Nat} : ((l.drop a).take n)[i]? = if i < n then l[a + i]? else none := by
  rw [List.getElem?_take]
  split
  · rw [List.getElem?_drop]
  · rfl
theorem IsRot.list {a m b : Nat} {d d' : Array α} (h1 : a ≤ m) (h2 : m ≤ b) (hb : b ≤ d.size) (h : IsRot a m b d d') :
    d'.toList = d.toList.take a ++ ((d.toList.drop m).take (b - m) ++ ((d.toList.drop a).take (m - a) ++ d.toList.drop b)) := by
  obtain ⟨hs, hi⟩ := h
  have hsz : d.toList.length = d.size := Array.length_toList
  apply List.ext_getElem?
  intro i
  by_cases hlt : i < d.size
  · rw [getD_toList d' i (by omega), hi i]
    have la : (d.toList.take a).length = a := by rw [List.length_take]; omega
    have lv : ((d.toList.drop m).take (b - m)).length = b - m := by rw [List.length_take, List.length_drop]; omega
    have lu : ((d.toList.drop a).take (m - a)).length = m - a := by rw [List.length_take, List.length_drop]; omega
    by_cases c1 : i < a
    · rw [if_neg (by omega), if_neg (by omega), List.getElem?_append_left (by omega), List.getElem?_take, if_pos c1, getD_toList d i hlt]
    · rw [List.getElem?_append_right (by omega), la]
      by_cases c2 : i < a + (b - m)
      · rw [if_pos ⟨by omega, c2⟩, List.getElem?_append_left (by omega), seg_get, if_pos (by omega), getD_toList d _ (by omega)]
        congr 2
        omega
      · rw [if_neg (by omega), List.getElem?_append_right (by omega), lv]
        by_cases c3 : i < b
        · rw [if_pos ⟨by omega, c3⟩, List.getElem?_append_left (by omega), seg_get, if_pos (by omega), getD_toList d _ (by omega)]
          congr 2
          omega
        · rw [if_neg (by omega), List.getElem?_append_right (by omega), lu, List.getElem?_drop, getD_toList d _ (by omega)]
          congr 2
          omega
  · rw [List.getElem?_eq_none (by rw [Array.length_toList]; omega)]
    symm
    apply List.getElem?_eq_none
    simp only [List.length_append, List.length_take, List.length_drop]
    omega
theorem IsRot.stb {key : α → Int} {a m b : Nat} {d d' : Array α} (h1 : a ≤ m) (h2 : m ≤ b) (hb : b ≤ d.size) (h : IsRot a m b d d') (hk : ∀ i j, a ≤ i → i < m → m ≤ j → j < b → key d[j]! < key d[i]!) : Stb key d d' := by
  refine ⟨h.1, fun k => ?_⟩
  rw [h.list h1 h2 hb]
  conv => rhs; rw [part4 d.toList h1 h2]
  simp only [List.filter_append]
  congr 1
  rw [← List.append_assoc, ← List.append_assoc]
  congr 1
  have hu : ∀ x ∈ (d.toList.drop a).take (m - a), ∃ i, a ≤ i ∧ i < m ∧ x = d[i]! := fun x hx => by
    obtain ⟨i, hi⟩ := List.mem_iff_getElem?.1 hx
    rw [seg_get] at hi
    split at hi
    · rw [getD_toList d _ (by omega)] at hi
      injection hi with hi
      exact ⟨a + i, by omega, by omega, hi.symm⟩
    · cases hi
  have hv : ∀ x ∈ (d.toList.drop m).take (b - m), ∃ i, m ≤ i ∧ i < b ∧ x = d[i]! := fun x hx => by
    obtain ⟨i, hi⟩ := List.mem_iff_getElem?.1 hx
    rw [seg_get] at hi
    split at hi
    · rw [getD_toList d _ (by omega)] at hi
      injection hi with hi
      exact ⟨m + i, by omega, by omega, hi.symm⟩
    · cases hi
  by_cases hz : ∃ x ∈ (d.toList.drop a).take (m - a), key x = k
  · obtain ⟨x, hx, hxk⟩ := hz
    obtain ⟨i, i1, i2, rfl⟩ := hu x hx
    have : ((d.toList.drop m).take (b - m)).filter (fun x => key x == k) = [] := by
      rw [List.filter_eq_nil_iff]
      intro y hy e
      obtain ⟨j, j1, j2, rfl⟩ := hv y hy
      have := hk i j i1 i2 j1 j2
      have e : key d[j]! = k := by simpa using e
      omega
    rw [this, List.nil_append, List.append_nil]
  · have : ((d.toList.drop a).take (m - a)).filter (fun x => key x == k) = [] := by
      rw [List.filter_eq_nil_iff]
      intro y hy e
      exact hz ⟨y, hy, by simpa using e⟩
    rw [this, List.nil_append, List.append_nil]

theorem swp_at (d : Array α) {i j : Nat} (hi : i < d.size) (hj : j < d.size) (k : Nat) : (swp d i j)[k]! = if k = j then d[i]! else if k = i then d[j]! else d[k]! := by
  by_cases h1 : k = j
  · subst h1
    rw [if_pos rfl, swp_right d i k hj]
  · rw [if_neg h1]
    by_cases h2 : k = i
    · subst h2
      rw [if_pos rfl, swp_left d k j hi (fun e => h1 e)]
    · rw [if_neg h2, swp_other d i j k h2 h1]
/-- Neighbours that stand the wrong way change places. -/
theorem stb_adj {key : α → Int} {d : Array α} {j : Nat} (hj : j + 1 < d.size) (hk : key d[j + 1]! < key d[j]!) : Stb key d (swp d (j + 1) j) := by
  refine IsRot.stb (a := j) (m := j + 1) (b := j + 2) (by omega) (by omega) (by omega) ⟨size_swp _ _ _, fun i => ?_⟩ fun i i' h1 h2 h3 h4 => ?_
  · rw [swp_at d (by omega) (by omega)]
    by_cases h1 : i = j
    · subst h1
      rw [if_pos rfl, if_pos ⟨by omega, by omega⟩]
      congr 1
      omega
    · rw [if_neg h1]
      by_cases h2 : i = j + 1
      · subst h2
        rw [if_pos rfl, if_neg (by omega), if_pos ⟨by omega, by omega⟩]
        congr 1
        omega
      · rw [if_neg h2, if_neg (by omega), if_neg (by omega)]
  · obtain rfl : i = j := by omega
    obtain rfl : i' = i + 1 := by omega
    exact hk

def Srt (key : α → Int) (a b : Nat) (d : Array α) : Prop := ∀ i j, a ≤ i → i < j → j < b → key d[i]! ≤ key d[j]!
/-- What was done, was done within [a, b). -/
structure Mrg (key : α → Int) (a b : Nat) (d d' : Array α) : Prop where
  stb : Stb key d d'
  out : ∀ i, i < a ∨ b ≤ i → d'[i]! = d[i]!
  frm : ∀ i, a ≤ i → i < b → ∃ j, a ≤ j ∧ j < b ∧ d'[i]! = d[j]!
theorem Mrg.refl (key : α → Int) (a b : Nat) (d : Array α) : Mrg key a b d d := ⟨.refl _ _, fun _ _ => rfl, fun i h1 h2 => ⟨i, h1, h2, rfl⟩⟩
theorem Mrg.trans {key : α → Int} {a b : Nat} {x y z : Array α} (h : Mrg key a b x y) (k : Mrg key a b y z) : Mrg key a b x z :=
  ⟨h.stb.trans k.stb, fun i hi => (k.out i hi).trans (h.out i hi), fun i h1 h2 => by
    obtain ⟨j, j1, j2, e⟩ := k.frm i h1 h2
    obtain ⟨j', j3, j4, e'⟩ := h.frm j j1 j2
    exact ⟨j', j3, j4, e.trans e'⟩⟩
theorem Mrg.widen {key : α → Int} {a b a' b' : Nat} {x y : Array α} (h : Mrg key a b x y) (h1 : a' ≤ a) (h2 : b ≤ b') : Mrg key a' b' x y :=
  ⟨h.stb, fun i hi => h.out i (by omega), fun i i1 i2 => by
    by_cases hc : a ≤ i ∧ i < b
    · obtain ⟨j, j1, j2, e⟩ := h.frm i hc.1 hc.2
      exact ⟨j, by omega, by omega, e⟩
    · exact ⟨i, i1, i2, h.out i (by omega)⟩⟩
theorem Srt.of {key : α → Int} {a b : Nat} {d d' : Array α} (h : Srt key a b d) (e : ∀ i, a ≤ i → i < b → d'[i]! = d[i]!) : Srt key a b d' := fun i j h1 h2 h3 => by
  rw [e i h1 (by omega), e j (by omega) h3]
  exact h i j h1 h2 h3

/-- The rotation in the midst of a merge. -/
theorem rot_facts {key : α → Int} {a s m e b : Nat} {d d' : Array α} (hs : a ≤ s) (hsm : s ≤ m) (hme : m ≤ e) (heb : e ≤ b) (hb : b ≤ d.size) (hu : Srt key a m d) (hv : Srt key m b d)
    (hA : s = a ∨ e = b ∨ key d[s - 1]! ≤ key d[e]!) (hB : s = m ∨ e = m ∨ key d[e - 1]! < key d[s]!) (h : IsRot s m e d d') :
    Mrg key a b d d' ∧ Srt key a s d' ∧ Srt key s (s + (e - m)) d' ∧ Srt key (s + (e - m)) e d' ∧ Srt key e b d' ∧ (∀ i j, a ≤ i → i < s + (e - m) → s + (e - m) ≤ j → j < b → key d'[i]! ≤ key d'[j]!) := by
  have le_u : ∀ i j, a ≤ i → i ≤ j → j < m → key d[i]! ≤ key d[j]! := fun i j h1 h2 h3 => by
    by_cases e : i = j
    · subst e; exact Int.le_refl _
    · exact hu i j h1 (by omega) h3
  have le_v : ∀ i j, m ≤ i → i ≤ j → j < b → key d[i]! ≤ key d[j]! := fun i j h1 h2 h3 => by
    by_cases e : i = j
    · subst e; exact Int.le_refl _
    · exact hv i j h1 (by omega) h3
  have lt_vu : ∀ i j, s ≤ i → i < m → m ≤ j → j < e → key d[j]! < key d[i]! := fun i j h1 h2 h3 h4 => by
    rcases hB with h | h | h
    · omega
    · omega
    · have h5 := le_v j (e - 1) h3 (by omega) (by omega)
      have h6 := le_u s i hs h1 h2
      omega
  have le_uv : ∀ i j, a ≤ i → i < s → e ≤ j → j < b → key d[i]! ≤ key d[j]! := fun i j h1 h2 h3 h4 => by
    rcases hA with h | h | h
    · omega
    · omega
    · have h5 := le_u i (s - 1) h1 (by omega) (by omega)
      have h6 := le_v e j (by omega) h3 h4
      omega
  have at1 : ∀ i, i < s → d'[i]! = d[i]! := fun i h1 => by rw [h.2, if_neg (by omega), if_neg (by omega)]
  have at2 : ∀ i, s ≤ i → i < s + (e - m) → d'[i]! = d[i + (m - s)]! := fun i h1 h2 => by rw [h.2, if_pos ⟨h1, h2⟩]
  have at3 : ∀ i, s + (e - m) ≤ i → i < e → d'[i]! = d[i - (e - m)]! := fun i h1 h2 => by rw [h.2, if_neg (by omega), if_pos ⟨h1, h2⟩]
  have at4 : ∀ i, e ≤ i → d'[i]! = d[i]! := fun i h1 => by rw [h.2, if_neg (by omega), if_neg (by omega)]
  refine ⟨⟨h.stb hsm hme (by omega) lt_vu, fun i hi => ?_, fun i h1 h2 => ?_⟩, fun i j h1 h2 h3 => ?_, fun i j h1 h2 h3 => ?_, fun i j h1 h2 h3 => ?_, fun i j h1 h2 h3 => ?_, fun i j h1 h2 h3 h4 => ?_⟩
  · rcases hi with hi | hi
    · exact at1 i (by omega)
    · exact at4 i (by omega)
  · by_cases c1 : i < s
    · exact ⟨i, h1, h2, at1 i c1⟩
    · by_cases c2 : i < s + (e - m)
      · exact ⟨_, by omega, by omega, at2 i (by omega) c2⟩
      · by_cases c3 : i < e
        · exact ⟨_, by omega, by omega, at3 i (by omega) c3⟩
        · exact ⟨i, h1, h2, at4 i (by omega)⟩
  · rw [at1 i (by omega), at1 j h3]
    exact hu i j h1 h2 (by omega)
  · rw [at2 i h1 (by omega), at2 j (by omega) h3]
    exact hv _ _ (by omega) (by omega) (by omega)
  · rw [at3 i h1 (by omega), at3 j (by omega) h3]
    exact hu _ _ (by omega) (by omega) (by omega)
  · rw [at4 i h1, at4 j (by omega)]
    exact hv _ _ (by omega) h2 h3
  · by_cases c1 : i < s
    · rw [at1 i c1]
      by_cases c3 : j < e
      · rw [at3 j h3 c3]
        exact le_u _ _ h1 (by omega) (by omega)
      · rw [at4 j (by omega)]
        exact le_uv _ _ h1 c1 (by omega) h4
    · rw [at2 i (by omega) h2]
      by_cases c3 : j < e
      · rw [at3 j h3 c3]
        exact Int.le_of_lt (lt_vu _ _ (by omega) (by omega) (by omega) (by omega))
      · rw [at4 j (by omega)]
        exact le_v _ _ (by omega) (by omega) h4
/-- Two parts, each of which is done, of which the one is below the other. -/
theorem merge_join {key : α → Int} {a c b : Nat} {d1 d2 d3 : Array α} (hac : a ≤ c) (hcb : c ≤ b) (hx : ∀ i j, a ≤ i → i < c → c ≤ j → j < b → key d1[i]! ≤ key d1[j]!)
    (h12 : Mrg key a c d1 d2) (hs2 : Srt key a c d2) (h23 : Mrg key c b d2 d3) (hs3 : Srt key c b d3) : Mrg key a b d1 d3 ∧ Srt key a b d3 := by
  refine ⟨(h12.widen (Nat.le_refl _) hcb).trans (h23.widen hac (Nat.le_refl _)), fun i j h1 h2 h3 => ?_⟩
  by_cases ci : i < c
  · by_cases cj : j < c
    · rw [h23.out i (.inl ci), h23.out j (.inl cj)]
      exact hs2 i j h1 h2 cj
    · obtain ⟨i', i1, i2, ei⟩ := h12.frm i h1 ci
      obtain ⟨j', j1, j2, ej⟩ := h23.frm j (by omega) h3
      rw [h23.out i (.inl ci), ei, ej, h12.out j' (.inr j1)]
      exact hx i' j' i1 i2 j1 j2
  · exact hs3 i j (by omega) h2 h3
theorem Srt.join {key : α → Int} {a c b : Nat} {d : Array α} (h1 : Srt key a c d) (h2 : Srt key c b d) (h : ∀ i j, a ≤ i → i < c → c ≤ j → j < b → key d[i]! ≤ key d[j]!) : Srt key a b d := fun i j i1 i2 i3 => by
  by_cases ci : i < c
  · by_cases cj : j < c
    · exact h1 i j i1 i2 cj
    · exact h i j i1 ci (by omega) i3
  · exact h2 i j (by omega) i2 i3

omit [Inhabited α] in
/-- Sorted lists of which those that are level stand alike are one. -/
theorem uniq (key : α → Int) : ∀ (xs ys : List α), xs.Pairwise (fun x y => key x ≤ key y) → ys.Pairwise (fun x y => key x ≤ key y) → (∀ k : Int, xs.filter (fun x => key x == k) = ys.filter (fun x => key x == k)) → xs = ys
  | [], [], _, _, _ => rfl
  | [], y :: ys, _, _, h => by
    have := h (key y)
    simp at this
  | x :: xs, [], _, _, h => by
    have := h (key x)
    simp at this
  | x :: xs, y :: ys, hx, hy, h => by
    have hx' := List.pairwise_cons.1 hx
    have hy' := List.pairwise_cons.1 hy
    have mx : x ∈ y :: ys := by
      have h1 : x ∈ (x :: xs).filter (fun z => key z == key x) := by simp
      rw [h] at h1
      exact (List.mem_filter.1 h1).1
    have my : y ∈ x :: xs := by
      have h1 : y ∈ (y :: ys).filter (fun z => key z == key y) := by simp
      rw [← h] at h1
      exact (List.mem_filter.1 h1).1
    have exy : key x = key y := by
      have h1 : key y ≤ key x := by
        rcases List.mem_cons.1 mx with e | e
        · rw [e]; exact Int.le_refl _
        · exact hy'.1 x e
      have h2 : key x ≤ key y := by
        rcases List.mem_cons.1 my with e | e
        · rw [e]; exact Int.le_refl _
        · exact hx'.1 y e
      omega
    have hh := h (key x)
    rw [List.filter_cons, List.filter_cons, if_pos (by simp), if_pos (by simp [exy])] at hh
    injection hh with e1 e2
    subst e1
    congr 1
    refine uniq key xs ys hx'.2 hy'.2 fun k => ?_
    have hk := h k
    rw [List.filter_cons, List.filter_cons] at hk
    split at hk
    · injection hk
    · exact hk
end Go.Proofs.Ytfjipkkhjjpaiaa.St
