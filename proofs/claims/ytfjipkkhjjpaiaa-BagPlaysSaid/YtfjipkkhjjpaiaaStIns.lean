/-
  Insertion sort over this seat's translation, by the kit's contract: what it does is a stable sort of its stretch. Conditions: those that each theorem states.
-/
import Derived.Test.YtfjipkkhjjpaiaaBagCmp
import Derived.Test.YtfjipkkhjjpaiaaStabM
import Derived.Test.YtfjipkkhjjpaiaaShelfS
namespace Go.Proofs.Ytfjipkkhjjpaiaa
open Go.Shelf Go.RowKit Go.Lib Go.Sort St

theorem ltOf_iff {α : Type} {cf : α → α → Int} {key : α → Int} (hcf : ∀ x y, cf x y < 0 ↔ key x < key y) (x y : α) : ltOf cf x y = true ↔ key x < key y := by
  unfold ltOf
  rw [decide_eq_true_iff, hcf]
theorem insInner_facts {α : Type} [Inhabited α] {cf : α → α → Int} {key : α → Int} (hcf : ∀ x y, cf x y < 0 ↔ key x < key y) (a i : Nat) : ∀ (j : Nat) (d : Array α), a ≤ j → j ≤ i → i < d.size →
    Srt key a j d → Srt key (j + 1) (i + 1) d → (∀ x y, a ≤ x → x < j → j < y → y < i + 1 → key d[x]! ≤ key d[y]!) → (∀ y, j < y → y < i + 1 → key d[j]! ≤ key d[y]!) →
    Mrg key a (i + 1) d (insInner (ltOf cf) a j d) ∧ Srt key a (i + 1) (insInner (ltOf cf) a j d) := by
  have stop : ∀ (j : Nat) (d : Array α), a ≤ j → j ≤ i → (j = a ∨ key d[j - 1]! ≤ key d[j]!) → Srt key a j d → Srt key (j + 1) (i + 1) d → (∀ x y, a ≤ x → x < j → j < y → y < i + 1 → key d[x]! ≤ key d[y]!) →
      (∀ y, j < y → y < i + 1 → key d[j]! ≤ key d[y]!) → Srt key a (i + 1) d := by
    intro j d haj hji hs h1 h2 h3 h4 x y hx hxy hy
    by_cases cx : x < j
    · by_cases cy : y < j
      · exact h1 x y hx hxy cy
      · by_cases ce : y = j
        · subst ce
          rcases hs with h | h
          · omega
          · by_cases cx2 : x = y - 1
            · rw [cx2]; exact h
            · exact Int.le_trans (h1 x (y - 1) hx (by omega) (by omega)) h
        · exact h3 x y hx cx (by omega) hy
    · by_cases ce : x = j
      · subst ce
        exact h4 y hxy hy
      · exact h2 x y (by omega) hxy hy
  intro j
  induction j with
  | zero =>
    intro d haj hji hi h1 h2 h3 h4
    rw [insInner]
    exact ⟨.refl _ _ _ _, stop 0 d haj hji (.inl (by omega)) h1 h2 h3 h4⟩
  | succ j ih =>
    intro d haj hji hi h1 h2 h3 h4
    rw [insInner]
    by_cases hc : j + 1 > a ∧ key d[j + 1]! < key d[j]!
    · rw [if_pos (by rw [Bool.and_eq_true, decide_eq_true_iff, ltOf_iff hcf]; exact hc)]
      have hat := fun k => swp_at d (i := j + 1) (j := j) (by omega) (by omega) k
      have hsz : (swp d (j + 1) j).size = d.size := size_swp _ _ _
      have he : ∀ k, k ≠ j → k ≠ j + 1 → (swp d (j + 1) j)[k]! = d[k]! := fun k n1 n2 => by rw [hat, if_neg n1, if_neg n2]
      have hj : (swp d (j + 1) j)[j]! = d[j + 1]! := by rw [hat, if_pos rfl]
      have hj1 : (swp d (j + 1) j)[j + 1]! = d[j]! := by rw [hat, if_neg (by omega), if_pos rfl]
      obtain ⟨m1, m2⟩ := ih (swp d (j + 1) j) (by omega) (by omega) (by omega) (fun x y hx hxy hy => by rw [he x (by omega) (by omega), he y (by omega) (by omega)]; exact h1 x y hx hxy (by omega))
        (fun x y hx hxy hy => by
          rw [he y (by omega) (by omega)]
          by_cases cx : x = j + 1
          · subst cx; rw [hj1]; exact h3 j y (by omega) (by omega) (by omega) hy
          · rw [he x (by omega) (by omega)]; exact h2 x y (by omega) hxy hy)
        (fun x y hx hxj hjy hy => by
          rw [he x (by omega) (by omega)]
          by_cases cy : y = j + 1
          · subst cy; rw [hj1]; exact h1 x j hx hxj (by omega)
          · rw [he y (by omega) (by omega)]; exact h3 x y hx (by omega) (by omega) hy)
        (fun y hjy hy => by
          rw [hj]
          by_cases cy : y = j + 1
          · subst cy; rw [hj1]; omega
          · rw [he y (by omega) (by omega)]; exact h4 y (by omega) hy)
      refine ⟨Mrg.trans ⟨stb_adj (by omega) hc.2, fun k hk => he k (by omega) (by omega), fun k k1 k2 => ?_⟩ m1, m2⟩
      by_cases ck : k = j
      · subst ck; exact ⟨k + 1, by omega, by omega, hj⟩
      · by_cases ck2 : k = j + 1
        · subst ck2; exact ⟨j, by omega, by omega, hj1⟩
        · exact ⟨k, k1, k2, he k ck ck2⟩
    · rw [if_neg (by rw [Bool.and_eq_true, decide_eq_true_iff, ltOf_iff hcf]; exact hc)]
      refine ⟨.refl _ _ _ _, stop (j + 1) d haj hji ?_ h1 h2 h3 h4⟩
      by_cases ha : j + 1 > a
      · right
        have : ¬ key d[j + 1]! < key d[j]! := fun h => hc ⟨ha, h⟩
        rw [Nat.add_sub_cancel]
        omega
      · left; omega
theorem insOuter_facts {α : Type} [Inhabited α] {cf : α → α → Int} {key : α → Int} (hcf : ∀ x y, cf x y < 0 ↔ key x < key y) (a b : Nat) : ∀ (n i : Nat) (d : Array α), b - i = n → a < i → i ≤ b → b ≤ d.size → Srt key a i d →
    Mrg key a b d (insOuter (ltOf cf) a b i d) ∧ Srt key a b (insOuter (ltOf cf) a b i d)
  | 0, i, d, hn, _, hib, _, hs => by
    rw [insOuter, if_neg (by omega)]
    exact ⟨.refl _ _ _ _, by rw [show b = i from by omega]; exact hs⟩
  | n + 1, i, d, hn, hai, hib, hb, hs => by
    rw [insOuter, if_pos (by omega)]
    obtain ⟨m1, s1⟩ := insInner_facts hcf a i i d (by omega) (Nat.le_refl _) (by omega) hs (fun x y h1 h2 h3 => by omega) (fun x y h1 h2 h3 h4 => by omega) (fun y h1 h2 => by omega)
    obtain ⟨m2, s2⟩ := insOuter_facts hcf a b n (i + 1) (insInner (ltOf cf) a i d) (by omega) (by omega) (by omega) (by rw [m1.stb.1]; exact hb) s1
    exact ⟨(m1.widen (Nat.le_refl _) (by omega)).trans m2, s2⟩
theorem insertion_facts {α : Type} [Inhabited α] {cf : α → α → Int} {key : α → Int} (hcf : ∀ x y, cf x y < 0 ↔ key x < key y) (a b : Nat) (d : Array α) (hab : a ≤ b) (hb : b ≤ d.size) :
    Mrg key a b d (Sort.insertionSort (ltOf cf) d a b) ∧ Srt key a b (Sort.insertionSort (ltOf cf) d a b) := by
  unfold Sort.insertionSort
  by_cases h : a + 1 ≤ b
  · exact insOuter_facts hcf a b _ (a + 1) d rfl (by omega) h hb fun x y h1 h2 h3 => by omega
  · rw [insOuter, if_neg (by omega)]
    exact ⟨.refl _ _ _ _, fun x y h1 h2 h3 => by omega⟩

theorem insertion_I (g : Nat) (cb : Array Value) (eg : ∀ args w, (callFunc g args).run Try.prog w = .ok (.enter g args) w) {cf : Int → Int → Int} {key : Int → Int} (hcf : ∀ x y, cf x y < 0 ↔ key x < key y) (blk off cap a b : Nat) (d0 d : Array Int) (w0 w : World)
    (hcmp : CmpLays1 Try.prog g cb (Value.int .i64) cf blk off d0.size w0) (R : Row1 (Value.int .i64) w0 blk off d0) (hs : d0.size = d.size) (S : SW (Value.int .i64) w0 blk off d w) (hab : a ≤ b) (hb : b ≤ d.size) (hsz : d.size < 4611686018427387904) :
    Calls Try.prog 65 #[.slice (some ⟨blk, off, none⟩) d.size cap, .int .i64 a, .int .i64 b, .func (.func g) #[] cb] w fun e w' => e = .returned (.tuple #[]) ∧ ∃ d', Mrg key a b d d' ∧ Srt key a b d' ∧ SW (Value.int .i64) w0 blk off d' w' := by
  have h := Any.insertionSortCmpFunc_s Try.laysInsI (Value.int .i64) cf g cb blk off cap a b d0 d w0 w eg hcmp R hs S hab hb hsz
  change Calls Try.prog 65 _ _ _ at h
  exact h.mono fun e w' ⟨he, hw⟩ => ⟨he, _, (insertion_facts hcf a b d hab hb).1, (insertion_facts hcf a b d hab hb).2, hw⟩
end Go.Proofs.Ytfjipkkhjjpaiaa
