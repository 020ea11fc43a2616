/-
  track's From gone over, over this seat's translation. Conditions: those that each theorem states.
-/
import Derived.Test.YtibphmddepfgjaaT7C
namespace Go.Proofs.Ytibphmddepfgjaa.Tr
open Go.RowKit Go.Shelf Go.Lib Go.Sort
attribute [local go_sem] Oper.semAt_some

theorem laidAt {W : World} {g off : Nat} {cur : Array Value} {t : TypeId} {L : List En} (hg : W.heap[g]? = some (.cells cur t (0, 0))) (hc : ∀ (j : Nat) (u : Value), (L.flatMap cE)[j]? = some u → cur[off + j]? = some u) {i : Nat} (hi : i < L.length) :
    W.cell? ⟨g, off + i * 4, none⟩ = some (.int .i64 (gE L i).1.1) ∧ W.cell? ⟨g, off + i * 4 + 1, none⟩ = some (.int .i64 (gE L i).1.2.1) ∧ W.cell? ⟨g, off + i * 4 + 2, none⟩ = some (.int .i64 (gE L i).1.2.2) ∧ W.cell? ⟨g, off + i * 4 + 3, none⟩ = some (.int .i64 (gE L i).2) := by
  have hj : ∀ (j : Nat) (u : Value), (cE (gE L i))[j]? = some u → W.cell? ⟨g, off + i * 4 + j, none⟩ = some u := fun j u hj => by
    rw [cell_of_row W g _ cur _ (0, 0) hg, Nat.add_assoc]
    exact hc _ u (flat_at (gE_get hi) hj)
  exact ⟨hj 0 _ rfl, hj 1 _ rfl, hj 2 _ rfl, hj 3 _ rfl⟩

/-- Where From stands: its copy. -/
structure FrS (lo hi n : Nat) (pa : Option Addr) (M : List En) (J : Nat → World → Prop) (k : Nat) (W : World) : Prop where
  j : J k W
  size : hi ≤ W.heap.size
  row : 0 < n → ∃ ga cur, pa = some ⟨ga, 0, none⟩ ∧ lo ≤ ga ∧ ga < hi ∧ W.heap[ga]? = some (.cells cur 71 (0, 0)) ∧ ∀ (j : Nat) (u : Value), (M.flatMap cE)[j]? = some u → cur[j]? = some u
theorem FrS.below {lo hi n : Nat} {pa : Option Addr} {M : List En} {J : Nat → World → Prop} {k B : Nat} {A C : World} (h : FrS lo hi n pa M J k A) (hJ : OwnFrom B J) (hb : Below A.heap.size A C) : FrS lo hi n pa M J k C :=
  ⟨hJ _ _ _ none h.j (grown_of_below hb) (fun r e => by cases e), Nat.le_trans h.size hb.size, fun h0 => by
    obtain ⟨ga, cur, e, h1, h2, h3, h4⟩ := h.row h0
    exact ⟨ga, cur, e, h1, h2, kbE h3 hb, h4⟩⟩

set_option maxRecDepth 100000 in
set_option maxHeartbeats 16000000 in
theorem from_seq {b k : Nat} {L : List En} {G : Option Nat} {v : Value} {w : World} (Bt Bs : Nat) (s : Sp) (hs : s.I) (hbt : w.heap[Bt]? = some (.cells #[.pointer (some ⟨b, 0, none⟩)] 28 (0, 0))) (hbs : w.heap[Bs]? = some (.cells #[.int .i64 s.1, .int .i64 s.2.1, .int .i64 s.2.2] 33 (0, 0))) (hT : TkS w b k L G v) :
    SeqP 38 #[.pointer (some ⟨Bt, 0, none⟩), .pointer (some ⟨Bs, 0, none⟩)] (fromL L s).length (fun j => #[(gE (fromL L s) j).1.v, .int .i64 (gE (fromL L s) j).2]) (fun _ => False) w := by
  by_cases hR : s.R = true
  · rw [from_drop hT.rise hR]
    obtain ⟨n, hn⟩ : ∃ n, nb L s = n := ⟨_, rfl⟩
    have hnl : n ≤ L.length := hn ▸ nb_le hT.rise hR
    have hml : (L.drop n).length = L.length - n := List.length_drop
    have hnz : (n : Int) ≤ (L.length : Int) := by omega
    rw [hn]
    obtain ⟨M, hM⟩ : ∃ M, L.drop n = M := ⟨_, rfl⟩
    obtain ⟨m, hm⟩ : ∃ m, L.length - n = m := ⟨_, rfl⟩
    rw [hM, hm] at hml
    rw [hM, hml]
    intro l J Jx W hW hJ hJx hJin hY h0
    have mixed : Try.prog.follows .mixedOrders = true := by kernel_rfl
    have hTW := hT.below hW
    have hbtW := kbE hbt hW
    have hbsW := kbE hbs hW
    obtain ⟨pv, cv, hv, hfl, hlc⟩ := hTW.ents.slice
    have c0 : W.cell? ⟨Bt, 0, none⟩ = some (.pointer (some ⟨b, 0, none⟩)) := by unfold World.cell?; rw [hbtW]; rfl
    obtain ⟨s0, s1, s2⟩ := cells3 hbsW (Below.refl _ _)
    have q0 : W.cell? ⟨b, 0, none⟩ = some (.slice pv L.length cv) := by rw [← hv]; exact (cell_two hTW.box).1
    have KM := Lib.hid (may_c (some ⟨b, 0, none⟩) s hs W)
    have KB := Lib.hid (fun W' (hb : Below W.heap.size W W') => below_c (hTW.below hb) s hs hR)
    have KC := Lib.hid (fun W' (hb : Below W.heap.size W W') => clone_c _ (cv - n) (L.drop n) W' ((hfl.keep hb).drop hnl hlc) (by have := hT.room; rw [List.length_drop]; omega))
    rw [hM, hml] at KC
    obtain ⟨qv, hq⟩ : ∃ q : Option Addr, (if cv = n then pv else pv.map (fun x => x.add (n * 4))) = q := ⟨_, rfl⟩
    rw [hq] at KC
    have HM := Lib.hid (And.intro hml (show m ≤ 1048576 by have := hT.room; omega))
    have HY := Lib.hid hY
    have HJ := Lib.hid (And.intro hJ (And.intro hJx h0))
    have HR := Lib.hid (And.intro hR hn)
    rw [hn] at KB
    clear hY h0 hJ hJx hJin hbt hbs hT hTW hbtW hbsW hW hv hfl hlc hs hR hn hml hM hnl
    refine callsIn_of_wp Try.func38 rfl trivial ?_ rfl
    simp only [Try.ntmps38, List.size_toArray, List.length_cons, List.length_nil, Nat.reduceAdd, Nat.reduceSub, Array.replicate_succ, Array.replicate_zero, List.push_toArray, List.append_toArray, List.nil_append, List.cons_append]
    refine wpIn_wide.2 ?_
    go_wp2_with fail
    refine KM.out.mono ?_
    rintro e w1 ⟨rfl, hb1⟩
    rw [show ((some (⟨b, 0, none⟩ : Addr)).isSome && s.R) = true from by rw [HR.out.1]; rfl]
    have hx := (show w1.cell? ⟨Bt, 0, none⟩ = some (.pointer (some ⟨b, 0, none⟩)) ∧ w1.cell? ⟨Bs, 0, none⟩ = some (.int .i64 s.1) ∧ w1.cell? ⟨Bs, 1, none⟩ = some (.int .i64 s.2.1) ∧ w1.cell? ⟨Bs, 2, none⟩ = some (.int .i64 s.2.2) ∧ w1.cell? ⟨b, 0, none⟩ = some (.slice pv L.length cv) from ⟨kc' hb1 c0, kc' hb1 s0, kc' hb1 s1, kc' hb1 s2, kc' hb1 q0⟩)
    clear c0 s0 s1 s2 q0 KM
    obtain ⟨c0, s0, s1, s2, q0⟩ := hx
    have HB1 := Lib.hid hb1
    clear hb1
    go_wp2_with fail
    go_region_held3 (fun w' => w'.cell? ⟨Bt, 0, none⟩ = some (.pointer (some ⟨b, 0, none⟩)) ∧ w'.cell? ⟨Bs, 0, none⟩ = some (.int .i64 s.1) ∧ w'.cell? ⟨Bs, 1, none⟩ = some (.int .i64 s.2.1) ∧ w'.cell? ⟨Bs, 2, none⟩ = some (.int .i64 s.2.2) ∧ w'.cell? ⟨b, 0, none⟩ = some (.slice pv L.length cv) ∧ Below W.heap.size W w')
      (first | (go_split_ands; with_reducible exact ⟨keepc hb (by assumption), keepc hb (by assumption), keepc hb (by assumption), keepc hb (by assumption), keepc hb (by assumption), belowT (by assumption) hb⟩) | exact ⟨c0, s0, s1, s2, q0, Below.drew HB1.out⟩ | go_keep)
      (first
        | (go_at_call 36; refine (KB.out _ (by repeat (first | with_reducible assumption | with_reducible exact HB1.out | with_reducible refine Below.drew ?_ | with_reducible refine bT2 ?_ (by assumption)))).mono ?_; rintro e w6 ⟨rfl, hb⟩)
        | (go_at_call 39; refine (KC.out _ (by repeat (first | with_reducible assumption | with_reducible exact HB1.out | with_reducible refine Below.drew ?_ | with_reducible refine bT2 ?_ (by assumption)))).mono ?_; rintro e w8 ⟨hb, pa, ca, rfl, hpos⟩; have HP := Lib.hid (show Below W.heap.size W w8 ∧ (0 < m → ∃ ga cur, pa = some ⟨ga, 0, none⟩ ∧ W.heap.size ≤ ga ∧ w8.heap[ga]? = some (.cells cur 71 (0, 0)) ∧ ∀ (j : Nat) (u : Value), (M.flatMap cE)[j]? = some u → cur[j]? = some u) from ⟨by repeat (first | with_reducible assumption | with_reducible exact HB1.out | with_reducible refine Below.drew ?_ | with_reducible refine bT2 ?_ (by assumption)), fun h0 => by
            obtain ⟨ga, cur, e, h1, h2, h3⟩ := hpos h0
            exact ⟨ga, cur, e, Nat.le_trans (show Below W.heap.size W w6 from by repeat (first | with_reducible assumption | with_reducible exact HB1.out | with_reducible refine Below.drew ?_ | with_reducible refine bT2 ?_ (by assumption))).size h1, h2, h3⟩⟩); clear hpos))
    all_goals
      obtain ⟨hB8, hpos⟩ := HP.out
      obtain ⟨hJ, hJx, h0⟩ := HJ.out
      have H8 : Hid (FrS W.heap.size w8.heap.size m pa M (J w8.heap.size) 0 w8) := Lib.hid ⟨h0 w8 hB8, Nat.le_refl _, fun h => by
        obtain ⟨ga, cur, e, h1, h2, h3⟩ := hpos h
        exact ⟨ga, cur, e, h1, (Array.getElem?_eq_some_iff.1 h2).1, h2, h3⟩⟩
      have HSZ := Lib.hid hB8.size
      have HOJ := Lib.hid hJ
      obtain ⟨hi, hhi⟩ : ∃ hi, w8.heap.size = hi := ⟨_, rfl⟩
      rw [hhi] at H8 HSZ
      clear hB8 hpos hJ hJx h0 hhi HP HJ KB KC
      go_wp2_with fail
      refine (wpIn_wide (n := 0)).1 ?_
      gi_loopw [20] (fun v wr => ∃ j : Nat, v = .int .i64 j ∧ j ≤ m ∧ Hid (FrS W.heap.size hi m pa M (J hi) j wr)) (fun v _ => m - (intOf v).toNat)
      case atStart => exact ⟨0, rfl, Nat.zero_le _, H8⟩
      case round =>
        clear H8
        obtain ⟨j, rfl, hj, HF⟩ := hrel
        by_cases hlt : j < m
        · have hjz : (j : Int) < (m : Int) := by omega
          have hj0 : (0 : Int) ≤ (j : Int) := by omega
          have hri : IntKind.i64.wrap ((j : Int) + 1) = ((j + 1 : Nat) : Int) := by rw [IntKind.wrap_i64]; have := HM.out.2; omega
          obtain ⟨ga, cur, rfl, h1, h2, h3, h4⟩ := HF.out.row (by omega)
          obtain ⟨x0, x1, x2, x3⟩ := laidAt (off := 0) h3 (by simpa using h4) (i := j) (by rw [HM.out.1]; exact hlt)
          rw [Nat.zero_add] at x0 x1 x2 x3
          obtain ⟨x, hx⟩ : ∃ x, gE M j = x := ⟨_, rfl⟩
          have hba : Below wr.heap.size wr (wr.alloc (.cells #[.int .i64 x.1.1, .int .i64 x.1.2.1, .int .i64 x.1.2.2, .int .i64 x.2] 71)) := bA' (Below.refl _ _) (Nat.le_refl _) _
          have hF := HF.out.below (HOJ.out hi) hba
          obtain ⟨fn, tm, asg, bd, hy, hR⟩ := HY.out hi j _ HSZ.out hF.size hF.j hlt
          rw [hx] at x0 x1 x2 x3 hy
          have HG := Lib.hid (And.intro h1 (And.intro h2 (And.intro (kbE h3 hba) (And.intro h4 hlt))))
          have HSA := Lib.hid hF.size
          clear h1 h2 h3 h4 hba hF hj hlt hx
          gi_wp2
          refine ⟨rfl, hR.mono ?_⟩
          rintro e W3 (⟨rfl, hj, hkp, _⟩ | ⟨rfl, hjx, _⟩)
          · have H3 : Hid (FrS W.heap.size hi m (some ⟨ga, 0, none⟩) M (J hi) (j + 1) W3 ∧ j + 1 ≤ m) := Lib.hid ⟨⟨hj, Nat.le_trans HSA.out hkp.size, fun _ => ⟨ga, cur, rfl, HG.out.1, HG.out.2.1, hkp.same ga _ (.inr ⟨HG.out.1, HG.out.2.1⟩) HG.out.2.2.1 rfl, HG.out.2.2.2.1⟩⟩, HG.out.2.2.2.2⟩
            clear hj hkp hy hR x0 x1 x2 x3
            gi_wp2
            go_roundw
            case rel => exact ⟨j + 1, rfl, H3.out.2, Lib.hid H3.out.1⟩
            case measure => have := H3.out.2; simp [intOf]; omega
          · have H3 := Lib.hid (show Jx hi (j + 1) W3 ∧ j + 1 ≤ m from ⟨hjx, HG.out.2.2.2.2⟩)
            clear hjx hy hR x0 x1 x2 x3
            gi_wp2
            refine bodyPost_ret (results_none rfl _ _ _) rfl ?_
            exact ⟨⟨_, rfl⟩, hi, HSZ.out, .inr ⟨j + 1, H3.out.2, H3.out.1⟩⟩
        · obtain rfl : j = m := by omega
          have hjz : ¬ ((j : Int) < (j : Int)) := by omega
          gi_wp2
          go_end0
          exact ⟨⟨_, rfl⟩, hi, HSZ.out, .inl HF.out.j⟩
  · have hR2 : s.R = false := Bool.eq_false_iff.2 hR
    have hM : fromL L s = [] := by unfold fromL; rw [if_neg hR]
    rw [hM]
    exact fromNo_seq (some ⟨b, 0, none⟩) Bt Bs s hs (by rw [hR2]; rfl) _ w hbt hbs
end Go.Proofs.Ytibphmddepfgjaa.Tr
