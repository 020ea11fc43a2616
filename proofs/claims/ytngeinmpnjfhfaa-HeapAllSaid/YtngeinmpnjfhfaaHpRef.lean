/-
  The given package gavotteref04's Del, Set, Get over this seat's translation. Conditions: those that each theorem states.
-/
import Derived.Test.YtngeinmpnjfhfaaHpIndex
import Derived.Test.YtngeinmpnjfhfaaHpPopsC
namespace Go.Proofs.Ytngeinmpnjfhfaa
open Go.RowKit Go.Shelf Go.Lib Go.Sort Hp Go.Maps

/-- With one more, ahead of the first that it is less than. -/
def putE : List It → It → List It
  | [], x => [x]
  | y :: l, x => if ltE x y = true then x :: y :: l else y :: putE l x
theorem putE_low : ∀ (l : List It) (x : It), (∀ y ∈ l, ¬ ltE x y = true) → ∀ r, putE (l ++ r) x = l ++ putE r x
  | [], _, _, _ => rfl
  | y :: l, x, h, r => by
    rw [List.cons_append, putE, if_neg (h y (List.mem_cons_self ..)), putE_low l x (fun z hz => h z (List.mem_cons_of_mem _ hz)) r]
    rfl
theorem putE_high : ∀ (l : List It) (x : It), (∃ y ∈ l, ltE x y = true) → ∀ r, putE (l ++ r) x = putE l x ++ r
  | [], _, h, _ => by obtain ⟨y, hy, _⟩ := h; cases hy
  | y :: l, x, h, r => by
    rw [List.cons_append, putE, putE]
    by_cases hy : ltE x y = true
    · rw [if_pos hy, if_pos hy]; rfl
    · rw [if_neg hy, if_neg hy, putE_high l x (by
        obtain ⟨z, hz, hlt⟩ := h
        rcases List.mem_cons.1 hz with rfl | hz
        · exact absurd hlt hy
        · exact ⟨z, hz, hlt⟩) r]
      rfl
theorem putE_perm : ∀ (l : List It) (x : It), (putE l x).Perm (x :: l)
  | [], _ => .refl _
  | y :: l, x => by
    rw [putE]
    split
    · exact .refl _
    · exact ((putE_perm l x).cons y).trans (List.Perm.swap ..)
theorem putE_len (l : List It) (x : It) : (putE l x).length = l.length + 1 := by rw [(putE_perm l x).length_eq, List.length_cons]
/-- Strictly rising. -/
abbrev Rising (l : List It) : Prop := l.Pairwise (fun a b => ltE a b = true)
theorem ltE_trans {a b c : It} (h : ltE a b = true) (k : ltE b c = true) : ltE a c = true := by
  rw [ltE_iff] at *
  omega
theorem putE_rising : ∀ (l : List It) (x : It), Rising l → (∀ y ∈ l, y.1 ≠ x.1) → Rising (putE l x)
  | [], _, _, _ => List.pairwise_singleton _ _
  | y :: l, x, h, hne => by
    have h1 := List.pairwise_cons.1 h
    rw [putE]
    by_cases hy : ltE x y = true
    · rw [if_pos hy]
      refine List.pairwise_cons.2 ⟨fun z hz => ?_, h⟩
      rcases List.mem_cons.1 hz with rfl | hz
      · exact hy
      · exact ltE_trans hy (h1.1 z hz)
    · rw [if_neg hy]
      refine List.pairwise_cons.2 ⟨fun z hz => ?_, putE_rising l x h1.2 fun z hz => hne z (List.mem_cons_of_mem _ hz)⟩
      rcases List.mem_cons.1 ((putE_perm l x).mem_iff.1 hz) with rfl | hz
      · refine lt_of_le (by simpa using hy) fun e => ?_
        exact hne y (List.mem_cons_self ..) (by rw [e])
      · exact h1.1 z hz
theorem sans_rising {l : List It} (h : Rising l) (k : Int) : Rising (sans l k) := h.sublist List.filter_sublist
/-- A rising list is the one of its entries. -/
theorem rising_unique : ∀ (l m : List It), Rising l → Rising m → l.Perm m → l = m
  | [], m, _, _, h => (List.nil_perm.1 h).symm
  | x :: l, [], _, _, h => by have := h.length_eq; simp at this
  | x :: l, y :: m, hl, hm, h => by
    have h1 := List.pairwise_cons.1 hl
    have h2 := List.pairwise_cons.1 hm
    have hxy : x = y := by
      rcases List.mem_cons.1 (h.mem_iff.1 (List.mem_cons_self ..)) with e | e
      · exact e
      · rcases List.mem_cons.1 (h.mem_iff.2 (List.mem_cons_self ..)) with e2 | e2
        · exact e2.symm
        · have k1 := h2.1 x e
          have k2 := h1.1 y e2
          rw [ltE_iff] at k1 k2
          omega
    subst hxy
    rw [rising_unique l m h1.2 h2.2 h.cons_inv]
theorem rising_dist {l : List It} {es : List It} (hd : Dist es) (h : es.Perm l) : Dist l := keys_perm h hd
theorem take_snoc {l : List It} {k : Nat} (hk : k < l.length) : l.take (k + 1) = l.take k ++ [l[k]] := by rw [List.take_add_one, List.getElem?_eq_getElem hk]; rfl
theorem infoR : (Try.prog.info? 44).map (fun i => (i.zero, i.size, i.bytes)) = some (some (.agg #[.int .i64 0, .int .i64 0]), 2, 16) := by kernel_rfl
/-- A list of entries of the given package, in a row of one's own. -/
abbrev Ents (W : World) (B : Nat) (v : Value) (l : List It) : Prop := W.ownsRow B 44 2 v l.length (l.flatMap It.cells)
abbrev At2 (W : World) (p : Option Addr) (l : List It) : Prop := ∀ i (hi : i < l.length), ∃ g off, p = some ⟨g, off, none⟩ ∧ W.cell? ⟨g, off + i * 2, none⟩ = some (.int .i64 l[i].1) ∧ W.cell? ⟨g, off + i * 2 + 1, none⟩ = some (.int .i64 l[i].2)
theorem At2.below {W W' : World} {p : Option Addr} {l : List It} (h : At2 W p l) (hb : Below W.heap.size W W') : At2 W' p l := fun i hi => by
  obtain ⟨g, off, e, h1, h2⟩ := h i hi
  exact ⟨g, off, e, kc' hb h1, kc' hb h2⟩
theorem Ents.at {W : World} {B : Nat} {v : Value} {l : List It} (h : Ents W B v l) : ∃ p cap, v = .slice p l.length cap ∧ At2 W p l := by
  rcases id h.2 with ⟨rfl, e⟩ | ⟨g, cap, cur, rfl, _⟩
  · exact ⟨none, 0, by rw [e], fun i hi => by omega⟩
  · refine ⟨_, cap, rfl, fun i hi => ⟨g, 0, rfl, ?_, ?_⟩⟩
    · rw [Nat.zero_add, h.cellAt (i * 2) (by omega)]
      have := flat_get cT_len l i 0 hi (by omega)
      rw [Nat.add_zero] at this
      rw [this]; rfl
    · rw [Nat.zero_add, h.cellAt (i * 2 + 1) (by omega), flat_get cT_len l i 1 hi (by omega)]
      rfl
theorem Ents.keep {W W' : World} {B : Nat} {v : Value} {l : List It} (h : Ents W B v l) (hk : ∀ g, v.ownBlock = some g → W'.heap[g]? = W.heap[g]?) : Ents W' B v l := by
  refine ⟨h.1, ?_⟩
  rcases h.2 with h3 | ⟨g, cap, cur, e, hB, hg, rest⟩
  · exact .inl h3
  · exact .inr ⟨g, cap, cur, e, hB, (hk g (by rw [e]; rfl)).trans hg, rest⟩
theorem Ents.below {W W' : World} {B : Nat} {v : Value} {l : List It} (h : Ents W B v l) (hb : Below W.heap.size W W') : Ents W' B v l := h.keep fun g e => hb.block g (h.lt g e).2
theorem Ents.up {W : World} {B B' : Nat} {v : Value} {l : List It} (h : Ents W B v l) (hB : B' ≤ B) : Ents W B' v l := ⟨h.1, h.2.imp id fun ⟨g, cap, cur, e, hg, r⟩ => ⟨g, cap, cur, e, by omega, r⟩⟩
theorem Ents.left {W W' : World} {B B' hb mb : Nat} {sv v : Value} {es l : List It} (h : Ents W B v l) (ho : Own B' W hb sv mb es) (hl : Left B' hb mb sv W W') : Ents W' B v l := by
  refine h.keep fun g e => ?_
  rcases h.2 with ⟨e2, _⟩ | ⟨g', cap, cur, e2, _, hg, _⟩
  · rw [e2] at e; cases e
  · rw [e2] at e
    obtain rfl : g' = g := by simpa [Value.ownBlock] using e
    obtain ⟨h1, h2, h3⟩ := ho.other hg (by decide) (by decide)
    exact hl.touch.block g' (Array.getElem?_eq_some_iff.1 hg).1 h1 h2 h3
theorem Ents.two {W : World} {B : Nat} {v : Value} {l : List It} {y : It} (h : W.ownsRow B 44 2 v (l.length + 1) (l.flatMap It.cells ++ [.int .i64 y.1, .int .i64 y.2])) : Ents W B v (l ++ [y]) := by
  unfold Ents
  rw [List.flatMap_append, List.length_append]
  exact h

/-- A list of entries of the given package that lies somewhere in a row from block B on. -/
def Lie (W : World) (B : Nat) (p : Option Addr) (cap : Nat) (l : List It) : Prop := l.length ≤ cap ∧ ∀ i (hi : i < l.length), ∃ g off cur fr, p = some ⟨g, off, none⟩ ∧ B ≤ g ∧ W.heap[g]? = some (.cells cur 44 fr) ∧ W.cell? ⟨g, off + i * 2, none⟩ = some (.int .i64 l[i].1) ∧ W.cell? ⟨g, off + i * 2 + 1, none⟩ = some (.int .i64 l[i].2)
theorem Lie.at {W : World} {B : Nat} {p : Option Addr} {cap : Nat} {l : List It} (h : Lie W B p cap l) : At2 W p l := fun i hi => by
  obtain ⟨g, off, cur, fr, h1, _, _, h2, h3⟩ := h.2 i hi
  exact ⟨g, off, h1, h2, h3⟩
theorem Lie.keep {W W' : World} {B : Nat} {p : Option Addr} {cap : Nat} {l : List It} (h : Lie W B p cap l) (hk : ∀ (g : Nat) (cur : Array Value) (fr : Nat × Nat), W.heap[g]? = some (Obj.cells cur 44 fr) → W'.heap[g]? = W.heap[g]?) : Lie W' B p cap l := ⟨h.1, fun i hi => by
  obtain ⟨g, off, cur, fr, h1, h2, h3, h4, h5⟩ := h.2 i hi
  have := hk g cur fr h3
  exact ⟨g, off, cur, fr, h1, h2, this.trans h3, (World.cell?_of_block this).trans h4, (World.cell?_of_block this).trans h5⟩⟩
theorem Lie.below {W W' : World} {B : Nat} {p : Option Addr} {cap : Nat} {l : List It} (h : Lie W B p cap l) (hb : Below W.heap.size W W') : Lie W' B p cap l := h.keep fun g _ _ hg => hb.block g (Array.getElem?_eq_some_iff.1 hg).1
theorem Lie.left {W W' : World} {B B' hb mb : Nat} {sv : Value} {es : List It} {p : Option Addr} {cap : Nat} {l : List It} (h : Lie W B p cap l) (ho : Own B' W hb sv mb es) (hl : Left B' hb mb sv W W') : Lie W' B p cap l := h.keep fun g cur fr hg => by
  obtain ⟨h1, h2, h3⟩ := ho.other hg (by decide) (by decide)
  exact hl.touch.block g (Array.getElem?_eq_some_iff.1 hg).1 h1 h2 h3
theorem Ents.lie {W : World} {B : Nat} {v : Value} {l : List It} (h : Ents W B v l) : ∃ p cap, v = .slice p l.length cap ∧ Lie W B p cap l := by
  obtain ⟨p, cap, hv, ha⟩ := h.at
  refine ⟨p, cap, hv, ?_, fun i hi => ?_⟩
  · rcases h.2 with ⟨e, h0⟩ | ⟨g, cap', cur, e, _, _, h1, _⟩
    · rw [h0]; exact Nat.zero_le _
    · rw [hv] at e
      simp at e
      omega
  · obtain ⟨g, off, e, h1, h2⟩ := ha i hi
    rcases h.2 with ⟨e2, h0⟩ | ⟨g', cap', cur, e2, hB, hg, _⟩
    · omega
    · rw [hv, e] at e2
      simp at e2
      obtain ⟨⟨rfl, _⟩, _⟩ := e2
      exact ⟨g, off, cur, (0, 0), e, hB, hg, h1, h2⟩
/-- Without the first. -/
theorem Lie.tail {W : World} {B : Nat} {p : Option Addr} {cap : Nat} {x : It} {l : List It} (h : Lie W B p cap (x :: l)) : ∀ g off, p = some ⟨g, off, none⟩ → Lie W B (if cap = 1 then some ⟨g, off, none⟩ else some ⟨g, off + 2, none⟩) (cap - 1) l := fun g off e => by
  have h1 := h.1
  rw [List.length_cons] at h1
  refine ⟨by omega, fun i hi => ?_⟩
  obtain ⟨g', off', cur, fr, e2, h2, h3, h4, h5⟩ := h.2 (i + 1) (by rw [List.length_cons]; omega)
  rw [e] at e2
  simp at e2
  obtain ⟨rfl, rfl⟩ := e2
  rw [if_neg (by omega)]
  refine ⟨g, off + 2, cur, fr, rfl, h2, h3, ?_, ?_⟩
  · rw [show off + 2 + i * 2 = off + (i + 1) * 2 from by omega]; exact h4
  · rw [show off + 2 + i * 2 + 1 = off + (i + 1) * 2 + 1 from by omega]; exact h5
theorem sans_snoc (l : List It) (y : It) (n : Int) : sans (l ++ [y]) n = sans l n ++ (if y.1 == n then [] else [y]) := by
  unfold sans
  rw [List.filter_append]
  by_cases h : y.1 = n
  · rw [List.filter_cons_of_neg (by simpa using h), if_pos (by simpa using h)]; rfl
  · rw [List.filter_cons_of_pos (by simpa using h), if_neg (by simpa using h)]; rfl

set_option maxHeartbeats 8000000 in
set_option maxRecDepth 100000 in
theorem rdel_c (l : List It) (n : Int) (p : Option Addr) (cap : Nat) (W : World) (hn : l.length ≤ 1000) (hx : At2 W p l) :
    Calls Try.prog 19 #[.slice p l.length cap, .int .i64 n] W fun e w' => ∃ ov, e = .returned (.tuple #[ov, .bool (l.any (fun y => y.1 == n))]) ∧ Ents w' W.heap.size ov (sans l n) ∧ Below W.heap.size W w' := by
  obtain ⟨i0, hi0, hz0, hz1, hz2⟩ := info_parts infoR
  have hX := Lib.hid hx
  clear hx
  go_enter Try.func19, Try.ntmps19
  go_wp2
  go_loopw [6, 7, 8] (fun ov dv iv wr => ∃ (k : Nat), iv = .int .i64 k ∧ dv = .bool ((l.take k).any (fun y => y.1 == n)) ∧ k ≤ l.length ∧ Hid (Below W.heap.size W wr) ∧ Hid (Ents wr W.heap.size ov (sans (l.take k) n))) (fun _ _ v _ => l.length - (intOf v).toNat)
  case atStart => exact ⟨0, rfl, rfl, Nat.zero_le _, Below.refl _ _, World.ownsRow_nil _ _ _ _⟩
  case round =>
    obtain ⟨k, rfl, rfl, hk, HBW, HOWN⟩ := hrel
    by_cases hlt : k < l.length
    · have hkz : (k : Int) < (l.length : Int) := by omega
      obtain ⟨g, off, rfl, a0, a1⟩ := hX.out k hlt
      have a0 := kc' HBW.out a0
      have a1 := kc' HBW.out a1
      have HT := Lib.hid (take_snoc hlt)
      obtain ⟨y, hy⟩ : ∃ y, l[k] = y := ⟨_, rfl⟩
      rw [hy] at a0 a1
      have HT := Lib.hid (show l.take (k + 1) = l.take k ++ [y] from by rw [HT.out, hy])
      obtain ⟨ya, yb⟩ := y
      dsimp only at a0 a1
      have hri : IntKind.i64.wrap ((k : Int) + 1) = ((k + 1 : Nat) : Int) := by rw [IntKind.wrap_i64]; omega
      have HA := Lib.hid (show (l.take (k + 1)).any (fun y => y.1 == n) = ((l.take k).any (fun y => y.1 == n) || ya == n) from by rw [HT.out, List.any_append]; simp)
      have hsl : (sans (l.take k) n).length ≤ 1000 := by
        have := sans_le (l.take k) n
        rw [List.length_take] at this
        omega
      have HSL := Lib.hid hsl
      clear hy hsl
      by_cases heq : ya = n
      · have hd1 : (ya == n) = true := beq_iff_eq.2 heq
        have HS := Lib.hid (show sans (l.take (k + 1)) n = sans (l.take k) n from by rw [HT.out, sans_snoc, if_pos hd1, List.append_nil])
        have HA2 := Lib.hid (show (l.take (k + 1)).any (fun y => y.1 == n) = true from by rw [HA.out, hd1, Bool.or_true])
        subst heq
        go_wp2
        exact ⟨⟨k + 1, by go_num, by rw [HA2.out], by omega, HBW, by rw [HS.out]; exact HOWN.out⟩, by simp [intOf]; omega⟩
      · have hd1 : (ya == n) = false := beq_eq_false_iff_ne.2 heq
        have HS := Lib.hid (show sans (l.take (k + 1)) n = sans (l.take k) n ++ [(ya, yb)] from by rw [HT.out, sans_snoc, if_neg (by simpa using heq)])
        have HA2 := Lib.hid (show (l.take (k + 1)).any (fun y => y.1 == n) = (l.take k).any (fun y => y.1 == n) from by rw [HA.out, hd1, Bool.or_false])
        have hsl := HSL.out
        clear heq
        go_wp2_with (first
          | (at_builtin; refine wpList_append_own _ rfl _ _ 41 rfl (W.heap.size) 44 i0 (.agg #[.int .i64 0, .int .i64 0]) 2 16 Try.underlying41 hi0 hz0 hz1 hz2 rfl (by decide) _ _ _ rfl (HOWN.out.alloc _) ⟨wr.heap.size, 0, none⟩ 1 1 [.int .i64 ya, .int .i64 yb] rfl rfl (by
                have := World.ownsRow_lit (base := 0) (e := 44) (size := 2) wr #[.int .i64 ya, .int .i64 yb] 1 (by omega) (by unfold maxLen; omega) rfl
                exact this.cells (g := wr.heap.size) (by simp [Value.ownBlock])) (by
                intro u hu
                simp only [List.mem_cons, List.not_mem_nil, or_false] at hu
                rcases hu with rfl | rfl <;> rfl) (by unfold maxLen; omega) (by omega) (by have := HBW.out.size; simp; omega) ?_; intro v3 w3 hown3 hg3 hnil3; have hbw3 : Below (W.heap.size) W w3 := (bA' HBW.out (by have := HBW.out.size; omega) _).grown hg3 (by have := HBW.out.size; simp; omega) (fun q e => (HOWN.out.lt q e).1); have HB3 := Lib.hid hbw3; have HO3 := Lib.hid hown3; clear hown3 hg3 hnil3 hbw3))
        exact ⟨⟨k + 1, by go_num, by rw [HA2.out], by omega, HB3, by rw [HS.out]; exact Ents.two HO3.out⟩, by simp [intOf]; omega⟩
    · obtain rfl : k = l.length := by omega
      rw [List.take_length] at HOWN ⊢
      go_wp2
      go_ret2
      exact ⟨_, rfl, HOWN.out, HBW.out⟩

set_option maxHeartbeats 4000000 in
set_option maxRecDepth 100000 in
theorem rget_c (l : List It) (n : Int) (p : Option Addr) (cap : Nat) (W : World) (hx : At2 W p l) (hn : l.length ≤ 1000) :
    Calls Try.prog 21 #[.slice p l.length cap, .int .i64 n] W fun e w' => e = .returned (.tuple #[.int .i64 (getE l n).1, .bool (getE l n).2]) ∧ W = w' := by
  have hX := Lib.hid hx
  clear hx
  obtain ⟨r, hr⟩ : ∃ r, getE l n = r := ⟨_, rfl⟩
  rw [hr]
  have HR := Lib.hid hr
  clear hr
  go_enter Try.func21, Try.ntmps21
  go_wp2
  go_loopw [6] (fun iv wr => ∃ k : Nat, iv = .int .i64 k ∧ k ≤ l.length ∧ Hid (∀ y ∈ l.take k, y.1 ≠ n) ∧ W = wr) (fun v _ => l.length - (intOf v).toNat)
  case atStart => exact ⟨0, rfl, Nat.zero_le _, (fun y hy => by simp at hy), rfl⟩
  case round =>
    obtain ⟨k, rfl, hk, HN, rfl⟩ := hrel
    by_cases hlt : k < l.length
    · have hkz : (k : Int) < (l.length : Int) := by omega
      obtain ⟨g, off, rfl, a0, a1⟩ := hX.out k hlt
      have HT := Lib.hid (take_snoc hlt)
      have hri : IntKind.i64.wrap ((k : Int) + 1) = ((k + 1 : Nat) : Int) := by rw [IntKind.wrap_i64]; omega
      obtain ⟨y, hy⟩ : ∃ y, l[k] = y := ⟨_, rfl⟩
      rw [hy] at a0 a1
      by_cases heq : y.1 = n
      · have hd1 : (y.1 == n) = true := beq_iff_eq.2 heq
        have HE := Lib.hid (show r = (y.2, true) from by
          rw [← HR.out]
          have h2 : l = l.take k ++ y :: l.drop (k + 1) := by rw [← hy, ← List.drop_eq_getElem_cons hlt, List.take_append_drop]
          unfold getE
          rw [h2, List.find?_append, List.find?_eq_none.2 (fun z hz => by simpa using HN.out z hz), List.find?_cons_of_pos (by exact hd1)]
          rfl)
        clear hy heq
        go_wp2
        go_ret2
        exact ⟨by rw [HE.out]; rfl, rfl⟩
      · have hd1 : (y.1 == n) = false := beq_eq_false_iff_ne.2 heq
        have HN2 := Lib.hid (show ∀ z ∈ l.take (k + 1), z.1 ≠ n from by
          rw [HT.out, hy]
          intro z hz
          rcases List.mem_append.1 hz with h | h
          · exact HN.out z h
          · rw [List.mem_singleton.1 h]; exact heq)
        clear hy heq
        go_wp2
        exact ⟨⟨k + 1, by go_num, by omega, HN2, by trivial⟩, by simp [intOf]; omega⟩
    · obtain rfl : k = l.length := by omega
      have HE := Lib.hid (show r = (0, false) from by
        rw [← HR.out]
        exact getE_out fun x hx => HN.out x (by rw [List.take_length]; exact hx))
      go_wp2
      go_ret2
      exact ⟨by rw [HE.out]; rfl, rfl⟩

/-- Between two rounds of Set. -/
def PutI (l : List It) (x : It) (k : Nat) (d : Bool) (O : List It) : Prop := (d = false ∧ O = l.take k ∧ ∀ y ∈ l.take k, ¬ ltE x y = true) ∨ (d = true ∧ O = putE (l.take k) x ∧ ∃ y ∈ l.take k, ltE x y = true)

set_option maxHeartbeats 16000000 in
set_option maxRecDepth 100000 in
theorem rset_c (l0 : List It) (x : It) (p0 : Option Addr) (cap0 : Nat) (W : World) (hn0 : l0.length ≤ 900) (hx0 : At2 W p0 l0) :
    Calls Try.prog 18 #[.slice p0 l0.length cap0, .agg #[.int .i64 x.1, .int .i64 x.2]] W fun e w' => ∃ ov, e = .returned ov ∧ Ents w' W.heap.size ov (putE (sans l0 x.1) x) ∧ Below W.heap.size W w' := by
  have mixed : Try.prog.follows .mixedOrders = true := by kernel_rfl
  have eg2 : ∀ args w, (callFunc 28 args).run Try.prog w = .ok (.enter 28 args) w := enters_of Try.func28 (by kernel_rfl) rfl
  have KLE := Lib.hid fun (x y : It) (w : World) => less_g x y w
  obtain ⟨i0, hi0, hz0, hz1, hz2⟩ := info_parts infoR
  obtain ⟨xa, xb⟩ := x
  dsimp only
  have q0 : (W.alloc (.cells #[.int .i64 xa, .int .i64 xb] 44)).cell? ⟨W.heap.size, 0, none⟩ = some (.int .i64 xa) := by go_simp
  have q1 : (W.alloc (.cells #[.int .i64 xa, .int .i64 xb] 44)).cell? ⟨W.heap.size, 1, none⟩ = some (.int .i64 xb) := by go_simp
  have hb1 : Below W.heap.size W (W.alloc (.cells #[.int .i64 xa, .int .i64 xb] 44)) := bA' (Below.refl _ _) (Nat.le_refl _) _
  have KD := rdel_c l0 xa p0 cap0 _ (by omega) (hx0.below hb1)
  have HQ := Lib.hid (And.intro q0 (And.intro q1 hb1))
  have HL0 := Lib.hid (show (sans l0 xa).length ≤ 1000 from by have := sans_le l0 xa; omega)
  clear hx0 hn0 q1 hb1
  go_enter Try.func18, Try.ntmps18
  go_wp2_with fail
  refine KD.mono ?_
  rintro e w2 ⟨ov2, rfl, hrow2, hb2⟩
  obtain ⟨p, cap, rfl, hX⟩ := hrow2.at
  have q0 := kc' hb2 HQ.out.1
  have q1 := kc' hb2 HQ.out.2.1
  have hbW2 := bT2 HQ.out.2.2 hb2
  obtain ⟨l, hl⟩ : ∃ l, sans l0 xa = l := ⟨_, rfl⟩
  rw [hl] at hX ⊢
  have hn : l.length ≤ 1000 := by rw [← hl]; exact HL0.out
  have HLQ := Lib.hid hl
  have hX := Lib.hid hX
  have HW2 := Lib.hid hbW2
  have HQ2 := Lib.hid (And.intro q0 q1)
  clear hrow2 hb2 KD HQ q0 q1 hbW2 hl HL0
  go_wp2
  go_loopw [5, 6, 7] (fun ov dv iv wr => ∃ (k : Nat) (d : Bool) (O : List It), iv = .int .i64 k ∧ dv = .bool d ∧ k ≤ l.length ∧ O.length ≤ 1 + k ∧ Hid (PutI l (xa, xb) k d O) ∧ Hid (Below w2.heap.size w2 wr) ∧ Hid (Ents wr w2.heap.size ov O)) (fun _ _ v _ => l.length - (intOf v).toNat)
  case atStart => exact ⟨0, false, [], rfl, rfl, Nat.zero_le _, by simp, .inl ⟨rfl, rfl, fun y hy => by simp at hy⟩, Below.refl _ _, World.ownsRow_nil _ _ _ _⟩
  case round =>
    obtain ⟨k, d, O, rfl, rfl, hk, hOl, HI, HBW, HOWN⟩ := hrel
    by_cases hlt : k < l.length
    · have hkz : (k : Int) < (l.length : Int) := by omega
      have hri : IntKind.i64.wrap ((k : Int) + 1) = ((k + 1 : Nat) : Int) := by rw [IntKind.wrap_i64]; omega
      obtain ⟨g, off, rfl, a0', a1'⟩ := hX.out k hlt
      have a0 := kc' HBW.out a0'
      have a1 := kc' HBW.out a1'
      have r0 := kc' HBW.out HQ2.out.1
      have r1 := kc' HBW.out HQ2.out.2
      have HT := Lib.hid (take_snoc hlt)
      obtain ⟨y, hy⟩ : ∃ y, l[k] = y := ⟨_, rfl⟩
      rw [hy] at a0 a1 a0' a1'
      have HT := Lib.hid (show l.take (k + 1) = l.take k ++ [y] from by rw [HT.out, hy])
      obtain ⟨ya, yb⟩ := y
      dsimp only at a0 a1 a0' a1'
      have A0 := Lib.hid (And.intro a0' a1')
      clear hy a0' a1'
      rcases HI.out with ⟨rfl, rfl, hlow⟩ | ⟨rfl, hO, hhi⟩
      · have g0 := cg a0
        have g1 := cg a1
        have g2 := cg r0
        have g3 := cg r1
        have HLOW := Lib.hid hlow
        have hll : (l.take k).length = k := by rw [List.length_take]; omega
        have HLL := Lib.hid hll
        clear hlow hll
        go_wp2_with fail
        go_quiet_grown (first | (go_at_fn 28; exact Calls.grown_of (KLE.out (xa, xb) (ya, yb) _)))
        have hG : G wr (grow (wr.drewN nq) osq) := ⟨nq, osq, rfl⟩
        have hbq : Below w2.heap.size w2 (grow (wr.drewN nq) osq) := bT' HBW.out hG.below HBW.out.size
        have HBQ := Lib.hid hbq
        have HOQ := Lib.hid (show Ents (grow (wr.drewN nq) osq) w2.heap.size u5 (l.take k) from HOWN.out.below hG.below)
        have t0 := hG.cell a0
        have t1 := hG.cell a1
        have s0 := hG.cell r0
        have s1 := hG.cell r1
        clear g0 g1 g2 g3 a0 a1 r0 r1 hG hbq HBW HOWN
        generalize grow (wr.drewN nq) osq = W2 at *
        cases hgt : ltE (xa, xb) (ya, yb)
        · have HI2 := Lib.hid (show PutI l (xa, xb) (k + 1) false (l.take k ++ [(ya, yb)]) from .inl ⟨rfl, HT.out.symm, by
            rw [HT.out]
            intro z hz
            rcases List.mem_append.1 hz with hz | hz
            · exact HLOW.out z hz
            · rw [List.mem_singleton] at hz
              subst hz
              rw [hgt]
              decide⟩)
          have hll := HLL.out
          go_wp2_with (first
            | (at_builtin; refine wpList_append_own _ rfl _ _ 41 rfl (w2.heap.size) 44 i0 (.agg #[.int .i64 0, .int .i64 0]) 2 16 Try.underlying41 hi0 hz0 hz1 hz2 rfl (by decide) _ _ _ rfl (HOQ.out.alloc _) ⟨W2.heap.size, 0, none⟩ 1 1 [.int .i64 ya, .int .i64 yb] rfl rfl (by
                have := World.ownsRow_lit (base := 0) (e := 44) (size := 2) W2 #[.int .i64 ya, .int .i64 yb] 1 (by omega) (by unfold maxLen; omega) rfl
                exact this.cells (g := W2.heap.size) (by simp [Value.ownBlock])) (by
                intro u hu
                simp only [List.mem_cons, List.not_mem_nil, or_false] at hu
                rcases hu with rfl | rfl <;> rfl) (by unfold maxLen; omega) (by omega) (by have := HBQ.out.size; simp; omega) ?_; intro v3 w3 hown3 hg3 hnil3; have hbw3 : Below (w2.heap.size) w2 w3 := (bA' HBQ.out (by have := HBQ.out.size; omega) _).grown hg3 (by have := HBQ.out.size; simp; omega) (fun q e => (HOQ.out.lt q e).1); have HB3 := Lib.hid hbw3; have HO3 := Lib.hid hown3; clear hown3 hg3 hnil3 hbw3))
          exact ⟨⟨k + 1, false, l.take k ++ [(ya, yb)], by go_num, rfl, by omega, by simp only [List.length_append, List.length_cons, List.length_nil]; omega, HI2, HB3, Ents.two HO3.out⟩, by simp [intOf]; omega⟩
        · have HI2 := Lib.hid (show PutI l (xa, xb) (k + 1) true (l.take k ++ [(xa, xb)] ++ [(ya, yb)]) from .inr ⟨rfl, by
            rw [HT.out, putE_low _ _ HLOW.out, putE, if_pos hgt, List.append_assoc]
            rfl, (ya, yb), by rw [HT.out]; simp, hgt⟩)
          have hll := HLL.out
          go_wp2_with (first
            | (at_builtin; refine wpList_append_own _ rfl _ _ 41 rfl (w2.heap.size) 44 i0 (.agg #[.int .i64 0, .int .i64 0]) 2 16 Try.underlying41 hi0 hz0 hz1 hz2 rfl (by decide) _ _ _ rfl (HOQ.out.alloc _) ⟨W2.heap.size, 0, none⟩ 1 1 [.int .i64 xa, .int .i64 xb] rfl rfl (by
                have := World.ownsRow_lit (base := 0) (e := 44) (size := 2) W2 #[.int .i64 xa, .int .i64 xb] 1 (by omega) (by unfold maxLen; omega) rfl
                exact this.cells (g := W2.heap.size) (by simp [Value.ownBlock])) (by
                intro u hu
                simp only [List.mem_cons, List.not_mem_nil, or_false] at hu
                rcases hu with rfl | rfl <;> rfl) (by unfold maxLen; omega) (by omega) (by have := HBQ.out.size; simp; omega) ?_; intro v3 w3 hown3 hg3 hnil3; have hbw3 : Below (w2.heap.size) w2 w3 := (bA' HBQ.out (by have := HBQ.out.size; omega) _).grown hg3 (by have := HBQ.out.size; simp; omega) (fun q e => (HOQ.out.lt q e).1); have HB3 := Lib.hid hbw3; have HO3 := Lib.hid hown3; clear hown3 hg3 hnil3 hbw3; have t0 := kc' HB3.out A0.out.1; have t1 := kc' HB3.out A0.out.2)
            | (at_builtin; refine wpList_append_own _ rfl _ _ 41 rfl (w2.heap.size) 44 i0 (.agg #[.int .i64 0, .int .i64 0]) 2 16 Try.underlying41 hi0 hz0 hz1 hz2 rfl (by decide) _ _ _ rfl (HO3.out.alloc _) ⟨w3.heap.size, 0, none⟩ 1 1 [.int .i64 ya, .int .i64 yb] rfl rfl (by
                have := World.ownsRow_lit (base := 0) (e := 44) (size := 2) w3 #[.int .i64 ya, .int .i64 yb] 1 (by omega) (by unfold maxLen; omega) rfl
                exact this.cells (g := w3.heap.size) (by simp [Value.ownBlock])) (by
                intro u hu
                simp only [List.mem_cons, List.not_mem_nil, or_false] at hu
                rcases hu with rfl | rfl <;> rfl) (by unfold maxLen; omega) (by omega) (by have := HB3.out.size; simp; omega) ?_; intro v4 w4 hown4 hg4 hnil4; have hbw4 : Below (w2.heap.size) w2 w4 := (bA' HB3.out (by have := HB3.out.size; omega) _).grown hg4 (by have := HB3.out.size; simp; omega) (fun q e => (HO3.out.lt q e).1); have HB4 := Lib.hid hbw4; have HO4 := Lib.hid hown4; clear hown4 hg4 hnil4 hbw4))
          exact ⟨⟨k + 1, true, l.take k ++ [(xa, xb)] ++ [(ya, yb)], by go_num, rfl, by omega, by simp only [List.length_append, List.length_cons, List.length_nil]; omega, HI2, HB4, (show Ents w4 w2.heap.size v4 (l.take k ++ [(xa, xb)] ++ [(ya, yb)]) from by
            unfold Ents
            rw [List.flatMap_append, List.flatMap_append, List.length_append, List.length_append]
            exact HO4.out)⟩, by simp [intOf]; omega⟩
      · have HI2 := Lib.hid (show PutI l (xa, xb) (k + 1) true (O ++ [(ya, yb)]) from .inr ⟨rfl, by rw [HT.out, putE_high _ _ hhi, hO], by
          obtain ⟨z, hz, h⟩ := hhi
          exact ⟨z, by rw [HT.out]; exact List.mem_append_left _ hz, h⟩⟩)
        clear hO hhi
        go_wp2_with fail
        go_quiet (fail)
        have hG : G wr (wr.drewN nq) := ⟨nq, #[], by rw [grow_empty]⟩
        have HBQ := Lib.hid (show Below w2.heap.size w2 (wr.drewN nq) from bT' HBW.out hG.below HBW.out.size)
        have HOQ := Lib.hid (show Ents (wr.drewN nq) w2.heap.size u5 O from HOWN.out.below hG.below)
        have t0 := hG.cell a0
        have t1 := hG.cell a1
        clear a0 a1 r0 r1 hG HBW HOWN
        generalize wr.drewN nq = W2 at *
        go_wp2_with (first
          | (at_builtin; refine wpList_append_own _ rfl _ _ 41 rfl (w2.heap.size) 44 i0 (.agg #[.int .i64 0, .int .i64 0]) 2 16 Try.underlying41 hi0 hz0 hz1 hz2 rfl (by decide) _ _ _ rfl (HOQ.out.alloc _) ⟨W2.heap.size, 0, none⟩ 1 1 [.int .i64 ya, .int .i64 yb] rfl rfl (by
                have := World.ownsRow_lit (base := 0) (e := 44) (size := 2) W2 #[.int .i64 ya, .int .i64 yb] 1 (by omega) (by unfold maxLen; omega) rfl
                exact this.cells (g := W2.heap.size) (by simp [Value.ownBlock])) (by
                intro u hu
                simp only [List.mem_cons, List.not_mem_nil, or_false] at hu
                rcases hu with rfl | rfl <;> rfl) (by unfold maxLen; omega) (by omega) (by have := HBQ.out.size; simp; omega) ?_; intro v3 w3 hown3 hg3 hnil3; have hbw3 : Below (w2.heap.size) w2 w3 := (bA' HBQ.out (by have := HBQ.out.size; omega) _).grown hg3 (by have := HBQ.out.size; simp; omega) (fun q e => (HOQ.out.lt q e).1); have HB3 := Lib.hid hbw3; have HO3 := Lib.hid hown3; clear hown3 hg3 hnil3 hbw3))
        exact ⟨⟨k + 1, true, O ++ [(ya, yb)], by go_num, rfl, by omega, by simp only [List.length_append, List.length_cons, List.length_nil]; omega, HI2, HB3, Ents.two HO3.out⟩, by simp [intOf]; omega⟩
    · obtain rfl : k = l.length := by omega
      have r0 := kc' HBW.out HQ2.out.1
      have r1 := kc' HBW.out HQ2.out.2
      rcases HI.out with ⟨rfl, hO, hlow⟩ | ⟨rfl, hO, hhi⟩
      · rw [List.take_length] at hO hlow
        subst hO
        have HP := Lib.hid (show putE O (xa, xb) = O ++ [(xa, xb)] from by have := putE_low O (xa, xb) hlow []; rwa [List.append_nil, putE] at this)
        clear hlow
        go_wp2_with (first
          | (at_builtin; refine wpList_append_own _ rfl _ _ 41 rfl (w2.heap.size) 44 i0 (.agg #[.int .i64 0, .int .i64 0]) 2 16 Try.underlying41 hi0 hz0 hz1 hz2 rfl (by decide) _ _ _ rfl (HOWN.out.alloc _) ⟨wr.heap.size, 0, none⟩ 1 1 [.int .i64 xa, .int .i64 xb] rfl rfl (by
                have := World.ownsRow_lit (base := 0) (e := 44) (size := 2) wr #[.int .i64 xa, .int .i64 xb] 1 (by omega) (by unfold maxLen; omega) rfl
                exact this.cells (g := wr.heap.size) (by simp [Value.ownBlock])) (by
                intro u hu
                simp only [List.mem_cons, List.not_mem_nil, or_false] at hu
                rcases hu with rfl | rfl <;> rfl) (by unfold maxLen; omega) (by omega) (by have := HBW.out.size; simp; omega) ?_; intro v3 w3 hown3 hg3 hnil3; have hbw3 : Below (w2.heap.size) w2 w3 := (bA' HBW.out (by have := HBW.out.size; omega) _).grown hg3 (by have := HBW.out.size; simp; omega) (fun q e => (HOWN.out.lt q e).1); have HB3 := Lib.hid hbw3; have HO3 := Lib.hid hown3; clear hown3 hg3 hnil3 hbw3))
        go_ret
        refine ⟨v3, rfl, ?_, bT2 HW2.out HB3.out⟩
        rw [HLQ.out, HP.out]
        exact (Ents.two HO3.out).up HW2.out.size
      · rw [List.take_length] at hO
        have HP := Lib.hid hO
        clear hO hhi
        go_wp2
        go_ret
        refine ⟨_, rfl, ?_, bT2 HW2.out HBW.out⟩
        rw [HLQ.out, ← HP.out]
        exact HOWN.out.up HW2.out.size
end Go.Proofs.Ytngeinmpnjfhfaa
