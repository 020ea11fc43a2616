/-
  A track in memory over this seat's translation: its entries, its block; what its searches answer. Conditions: those that each theorem states.
-/
import Derived.Test.YtibphmddepfgjaaR7D
import Derived.Test.YtibphmddepfgjaaMG
namespace Go.Proofs.Ytibphmddepfgjaa.Tr
open Go.RowKit Go.Shelf Go.Lib Go.Sort

/-- The entries of a slice; the block where they lie, if it has any room. -/
def Ents (W : World) (v : Value) (L : List En) (G : Option Nat) : Prop :=
  (∃ p, v = .slice p 0 0 ∧ L = [] ∧ G = none) ∨
  ∃ g off cap cur, v = .slice (some ⟨g, off, none⟩) L.length cap ∧ G = some g ∧ 0 < cap ∧ L.length ≤ cap ∧ W.heap[g]? = some (.cells cur 71 (0, 0)) ∧ cur.size = off + cap * 4 ∧ ∀ j u, (L.flatMap cE)[j]? = some u → cur[off + j]? = some u
theorem Ents.keep {W W' : World} {v : Value} {L : List En} {G : Option Nat} (h : Ents W v L G) (hk : ∀ g, G = some g → W'.heap[g]? = W.heap[g]?) : Ents W' v L G := by
  rcases h with h | ⟨g, off, cap, cur, e, eG, h0, h1, h2, h3⟩
  · exact .inl h
  · exact .inr ⟨g, off, cap, cur, e, eG, h0, h1, (hk g eG).trans h2, h3⟩
theorem Ents.lt {W : World} {v : Value} {L : List En} {G : Option Nat} (h : Ents W v L G) : ∀ g, G = some g → g < W.heap.size := by
  rintro g e
  rcases h with ⟨p, _, _, e2⟩ | ⟨g', off, cap, cur, _, eG, h0, h1, h2, h3⟩
  · rw [e2] at e; cases e
  · rw [eG] at e
    cases e
    exact (Array.getElem?_eq_some_iff.1 h2).1
theorem Ents.slice {W : World} {v : Value} {L : List En} {G : Option Nat} (h : Ents W v L G) : ∃ p cap, v = .slice p L.length cap ∧ FlatE W p L ∧ L.length ≤ cap := by
  rcases h with ⟨p, e, eL, _⟩ | ⟨g, off, cap, cur, e, eG, h0, h1, h2, h3, h4⟩
  · subst eL
    exact ⟨p, 0, e, .inl rfl, Nat.le_refl _⟩
  · refine ⟨_, cap, e, .inr ⟨g, off, rfl, fun j u hu => ?_⟩, h1⟩
    rw [cell_of_row W g _ cur _ (0, 0) h2]
    exact h4 j u hu
/-- A track in the block b, with room for k, of the entries L, whose slice is v. -/
structure TkS (W : World) (b k : Nat) (L : List En) (G : Option Nat) (v : Value) : Prop where
  box : W.heap[b]? = some (.cells #[v, .int .i64 (k : Int)] 66 (0, 0))
  ents : Ents W v L G
  room : 1 ≤ k ∧ k ≤ 1048576 ∧ L.length ≤ k
  rise : Rise L
  small : ∀ e ∈ L, e.1.I ∧ In64 e.2
/-- The blocks that its calls may turn. -/
def Fp (b : Nat) (G : Option Nat) (x : Nat) : Prop := x = b ∨ G = some x
theorem TkS.lt {W : World} {b k : Nat} {L : List En} {G : Option Nat} {v : Value} (h : TkS W b k L G v) : ∀ x, Fp b G x → x < W.heap.size := by
  rintro x (rfl | e)
  · exact (Array.getElem?_eq_some_iff.1 h.box).1
  · exact h.ents.lt x e
theorem TkS.keep {W W' : World} {b k : Nat} {L : List En} {G : Option Nat} {v : Value} (h : TkS W b k L G v) (hk : ∀ x, Fp b G x → W'.heap[x]? = W.heap[x]?) : TkS W' b k L G v :=
  ⟨(hk b (.inl rfl)).trans h.box, h.ents.keep fun g e => hk g (.inr e), h.room, h.rise, h.small⟩
theorem TkS.below {W W' : World} {b k : Nat} {L : List En} {G : Option Nat} {v : Value} (h : TkS W b k L G v) (hb : Below W.heap.size W W') : TkS W' b k L G v := h.keep fun x hx => hb.block x (h.lt x hx)
theorem TkS.ne {W : World} {b k : Nat} {L : List En} {G : Option Nat} {v : Value} (h : TkS W b k L G v) : ∀ g, G = some g → g ≠ b := by
  rintro g e rfl
  rcases h.ents with ⟨p, _, _, e2⟩ | ⟨g', off, cap, cur, _, eG, h0, h1, h2, h3⟩
  · rw [e2] at e; cases e
  · rw [eG] at e
    cases e
    have := h.box.symm.trans h2
    simp at this
/-- How many are less; how many are not greater. -/
def nb (L : List En) (s : Sp) : Nat := (lessL L s).length
def nu (L : List En) (s : Sp) : Nat := (upL L s).length
theorem gE_mem {L A B : List En} (hL : L = A ++ B) (i : Nat) : (i < A.length → gE L i ∈ A) ∧ (A.length ≤ i → i < L.length → gE L i ∈ B) := by
  subst hL
  refine ⟨fun h => ?_, fun h1 h2 => ?_⟩
  · have h3 : (A ++ B)[i]? = some (gE (A ++ B) i) := gE_get (by rw [List.length_append]; omega)
    rw [List.getElem?_append_left h] at h3
    exact List.mem_of_getElem? h3
  · have h3 : (A ++ B)[i]? = some (gE (A ++ B) i) := gE_get h2
    rw [List.getElem?_append_right h1] at h3
    exact List.mem_of_getElem? h3
theorem less_split {L : List En} {s : Sp} (h : Rise L) (hs : s.R = true) : L = lessL L s ++ (levL L s ++ moreL L s) := (h.parts hs).1
theorem up_split {L : List En} {s : Sp} (h : Rise L) (hs : s.R = true) : L = upL L s ++ moreL L s := by
  unfold upL
  rw [List.append_assoc]
  exact (h.parts hs).1
theorem nb_le {L : List En} {s : Sp} (h : Rise L) (hs : s.R = true) : nb L s ≤ L.length := by
  have := congrArg List.length (less_split h hs)
  rw [List.length_append] at this
  unfold nb
  omega
theorem nu_le {L : List En} {s : Sp} (h : Rise L) (hs : s.R = true) : nu L s ≤ L.length := by
  have := congrArg List.length (up_split h hs)
  rw [List.length_append] at this
  unfold nu
  omega
theorem nb_lt {L : List En} {s : Sp} (h : Rise L) (hs : s.R = true) {i : Nat} (hi : i < nb L s) : (!decide (cmp (gE L i).1 s < 0)) = false := by
  have := (List.mem_filter.1 ((gE_mem (less_split h hs) i).1 hi)).2
  rw [this]
  rfl
theorem nb_ge {L : List En} {s : Sp} (h : Rise L) (hs : s.R = true) {i : Nat} (hi : nb L s ≤ i) (hl : i < L.length) : (!decide (cmp (gE L i).1 s < 0)) = true := by
  rcases List.mem_append.1 ((gE_mem (less_split h hs) i).2 hi hl) with hm | hm
  · have h1 : cmp (gE L i).1 s = 0 := by simpa using (List.mem_filter.1 hm).2
    rw [decide_eq_false (by omega)]
    rfl
  · have h1 : 0 < cmp (gE L i).1 s := by simpa using (List.mem_filter.1 hm).2
    rw [decide_eq_false (by omega)]
    rfl
theorem nu_lt {L : List En} {s : Sp} (h : Rise L) (hs : s.R = true) {i : Nat} (hi : i < nu L s) : decide (cmp s (gE L i).1 < 0) = false := by
  have h2 := cmp_anti s (gE L i).1
  rcases List.mem_append.1 ((gE_mem (up_split h hs) i).1 hi) with hm | hm
  · have h1 : cmp (gE L i).1 s < 0 := by simpa using (List.mem_filter.1 hm).2
    exact decide_eq_false (by omega)
  · have h1 : cmp (gE L i).1 s = 0 := by simpa using (List.mem_filter.1 hm).2
    exact decide_eq_false (by omega)
theorem nu_ge {L : List En} {s : Sp} (h : Rise L) (hs : s.R = true) {i : Nat} (hi : nu L s ≤ i) (hl : i < L.length) : decide (cmp s (gE L i).1 < 0) = true := by
  have h2 := cmp_anti s (gE L i).1
  have h1 : 0 < cmp (gE L i).1 s := by simpa using (List.mem_filter.1 ((gE_mem (up_split h hs) i).2 hi hl)).2
  exact decide_eq_true (by omega)

set_option maxHeartbeats 2000000 in
theorem may_c (p : Option Addr) (s : Sp) (hs : s.I) (w : World) : Calls Try.prog 25 #[.pointer p, s.v] w fun e w' => e = .returned (.bool (p.isSome && s.R)) ∧ Below w.heap.size w w' := by
  have KR := Lib.hid (pright_c s.1 s.2.1 s.2.2 hs)
  have HB := Lib.hid (bA' (Below.refl w.heap.size w) (Nat.le_refl _) (.cells #[.int .i64 s.1, .int .i64 s.2.1, .int .i64 s.2.2] 33))
  clear hs
  cases p with
  | none =>
    go_enter Try.func25, Try.ntmps25
    go_wp2_with fail
    go_ret
    exact ⟨rfl, HB.out⟩
  | some a =>
    go_enter Try.func25, Try.ntmps25
    go_wp2_with (first | (go_at_call 40; refine (KR.out _).mono ?_; rintro e w1 ⟨rfl, hb⟩; have H1 := Lib.hid hb; clear hb))
    go_ret
    exact ⟨by simp, bT' HB.out H1.out HB.out.size⟩

set_option maxHeartbeats 4000000 in
set_option maxRecDepth 100000 in
theorem search_c (gf : Nat) (lb : Array Value) (n c : Nat) (p : Nat → Bool) (w : World) (eg : ∀ args w, (callFunc gf args).run Try.prog w = .ok (.enter gf args) w) (hn : n < 4611686018427387904) (hc : c ≤ n) (h1 : ∀ i, i < c → p i = false) (h2 : ∀ i, c ≤ i → i < n → p i = true)
    (hf : ∀ i W, Below w.heap.size w W → i < n → Calls Try.prog gf (#[.int .i64 (i : Nat)] ++ lb) W fun e W' => e = .returned (.bool (p i)) ∧ Below W.heap.size W W') :
    Calls Try.prog 43 #[.int .i64 (n : Int), .func (.func gf) #[] lb] w fun e w' => e = .returned (.int .i64 (c : Int)) ∧ Below w.heap.size w w' := by
  have HF := Lib.hid hf
  have HP := Lib.hid (And.intro h1 h2)
  clear hf h1 h2
  go_enter Try.func43, Try.ntmps43
  go_wp2
  go_loopg [5, 6] n (fun kx s5 s6 wr => ∃ (lo hi : Nat), s5 = .int .i64 lo ∧ s6 = .int .i64 hi ∧ lo ≤ c ∧ c ≤ hi ∧ hi ≤ n ∧ hi - lo ≤ kx ∧ Hid (Below w.heap.size w wr))
  case atStart => exact ⟨0, n, rfl, rfl, Nat.zero_le _, hc, Nat.le_refl _, by omega, Lib.hid (Below.refl _ _)⟩
  case round =>
    obtain ⟨lo, hi, rfl, rfl, hlo, hhi, hin, hg, HB⟩ := hrel
    by_cases hlt : lo < hi
    · have hk := HF.out ((lo + hi) / 2) wr HB.out (by omega)
      rw [show (((lo + hi) / 2 : Nat) : Int) = ((lo : Int) + (hi : Int)) / 2 by omega] at hk
      cases hp : p ((lo + hi) / 2) <;> rw [hp] at hk
      · have hm : (lo + hi) / 2 < c := by
          refine Nat.lt_of_not_le fun h => ?_
          have := HP.out.2 _ h (by omega)
          rw [hp] at this
          cases this
        clear hp
        go_wp2_with (go_at_fn gf; refine hk.mono ?_; rintro e w' ⟨rfl, hb⟩; have H2 := Lib.hid (bT' HB.out hb HB.out.size); clear hb)
        go_roundg (hi - ((lo + hi) / 2 + 1))
        case measure => omega
        case rel => exact ⟨(lo + hi) / 2 + 1, hi, by rw [show ((lo : Int) + (hi : Int)) / 2 + 1 = (((lo + hi) / 2 + 1 : Nat) : Int) by omega], rfl, by omega, hhi, hin, Nat.le_refl _, H2⟩
      · have hm : c ≤ (lo + hi) / 2 := by
          refine Nat.le_of_not_lt fun h => ?_
          have := HP.out.1 _ h
          rw [hp] at this
          cases this
        clear hp
        go_wp2_with (go_at_fn gf; refine hk.mono ?_; rintro e w' ⟨rfl, hb⟩; have H2 := Lib.hid (bT' HB.out hb HB.out.size); clear hb)
        go_roundg ((lo + hi) / 2 - lo)
        case measure => omega
        case rel => exact ⟨lo, (lo + hi) / 2, rfl, by rw [show ((lo : Int) + (hi : Int)) / 2 = (((lo + hi) / 2 : Nat) : Int) by omega], hlo, hm, by omega, Nat.le_refl _, H2⟩
    · obtain rfl : hi = c := by omega
      obtain rfl : lo = hi := by omega
      go_wp2
      go_ret
      exact ⟨rfl, HB.out⟩
end Go.Proofs.Ytibphmddepfgjaa.Tr
