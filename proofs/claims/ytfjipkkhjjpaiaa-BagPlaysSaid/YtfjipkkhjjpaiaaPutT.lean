/-
  bag's Put at items over this seat's translation. Conditions: those that each theorem states.
-/
import Derived.Test.YtfjipkkhjjpaiaaWeave0T
import Derived.Test.YtfjipkkhjjpaiaaPutI
namespace Go.Proofs.Ytfjipkkhjjpaiaa
open Go.RowKit Go.Shelf Go.Lib Go.Sort St

/-- A bag in block b, whose row's value is sv. -/
structure BagST (W : World) (b : Nat) (sv : Value) (xs : List It) : Prop where
  box : W.heap[b]? = some (.cells #[.func (.func 18) #[] #[], sv] 76 (0, 0))
  row : W.ownsRow 0 41 2 sv xs.length (xs.flatMap It.cells)
  srt : xs.Pairwise (fun x y => (fun x : It => x.1) x ≤ (fun x : It => x.1) y)
theorem BagST.lt {W : World} {b : Nat} {sv : Value} {xs : List It} (h : BagST W b sv xs) : b < W.heap.size ∧ ∀ g, sv.ownBlock = some g → g < W.heap.size := ⟨(Array.getElem?_eq_some_iff.1 h.box).1, fun g e => (h.row.lt g e).2⟩
theorem BagST.same {W W' : World} {b : Nat} {sv : Value} {xs : List It} (h : BagST W b sv xs) (h1 : W'.heap[b]? = W.heap[b]?) (h2 : ∀ g, sv.ownBlock = some g → W'.heap[g]? = W.heap[g]?) : BagST W' b sv xs := by
  refine ⟨h1.trans h.box, ⟨h.row.1, ?_⟩, h.srt⟩
  rcases h.row.2 with h3 | ⟨g, cap, cur, e, hB, hg, rest⟩
  · exact .inl h3
  · exact .inr ⟨g, cap, cur, e, hB, (h2 g (by rw [e]; rfl)).trans hg, rest⟩
theorem BagST.below {W W' : World} {b : Nat} {sv : Value} {xs : List It} (h : BagST W b sv xs) (hb : Below W.heap.size W W') : BagST W' b sv xs := h.same (hb.block _ h.lt.1) fun g e => hb.block _ (h.lt.2 g e)
theorem BagST.bag {W : World} {b : Nat} {sv : Value} {xs : List It} (h : BagST W b sv xs) : BagT W b 0 xs := ⟨⟨sv, h.box, h.row⟩, Nat.zero_le _, h.srt⟩

theorem sortAny_T (w0 w1 : World) (pa : Option Addr) (ca : Nat) (ys : List It) (hb1 : Below w0.heap.size w0 w1) (hlen : ys.length ≤ 1000000) (hpos : 0 < ys.length → ∃ ga, pa = some ⟨ga, 0, none⟩ ∧ w0.heap.size ≤ ga ∧ RowIs It.cells 2 41 ga ys.length ca w1 ys) :
    Calls Try.prog 43 #[.slice pa ys.length ca, .func (.func 18) #[] #[]] w1 fun e w' => e = .returned (.tuple #[]) ∧ ∃ zs : List It, zs.length = ys.length ∧ zs.Pairwise (fun x y => (fun x : It => x.1) x ≤ (fun x : It => x.1) y) ∧ (∀ k : Int, zs.filter (fun x => (fun x : It => x.1) x == k) = ys.filter (fun x => (fun x : It => x.1) x == k)) ∧ Below w0.heap.size w0 w' ∧
      (0 < ys.length → ∃ ga, pa = some ⟨ga, 0, none⟩ ∧ w0.heap.size ≤ ga ∧ ga < w'.heap.size ∧ ∀ j u, (zs.flatMap It.cells)[j]? = some u → w'.cell? ⟨ga, j, none⟩ = some u) := by
  by_cases hm : 0 < ys.length
  · obtain ⟨ga, rfl, hga, hrow⟩ := hpos hm
    refine (sort_T ga ca ys w1 hrow hlen).mono ?_
    rintro e w' ⟨rfl, zs, z1, z2, z3, z4, z5⟩
    obtain ⟨cur, hc, _⟩ := hrow.whole
    exact ⟨rfl, zs, z1, z2, z3, hb1.trans (z5.below_of hb1.size hga (fun g e => by cases e)), fun _ => ⟨ga, rfl, hga, Nat.lt_of_lt_of_le (Array.getElem?_eq_some_iff.1 hc).1 z5.size, z4⟩⟩
  · obtain rfl : ys = [] := List.eq_nil_of_length_eq_zero (by omega)
    refine (sortNil_T pa ca (.func 18) w1).mono ?_
    rintro e w' ⟨rfl, rfl⟩
    exact ⟨rfl, [], rfl, .nil, fun _ => rfl, hb1, fun h => absurd h (Nat.lt_irrefl 0)⟩

theorem weaveAny_T (w0 w : World) (b gp ca cp : Nat) (pa : Option Addr) (sv : Value) (xs ys : List It) (h : BagST w b sv xs) (hlen : xs.length + ys.length ≤ 1000000) (hb : b < w0.heap.size) (hsv : ∀ g, sv.ownBlock = some g → g < w0.heap.size)
    (hpa : 0 < ys.length → ∃ ga, pa = some ⟨ga, 0, none⟩ ∧ w0.heap.size ≤ ga ∧ ga < w.heap.size ∧ ∀ j u, (ys.flatMap It.cells)[j]? = some u → w.cell? ⟨ga, j, none⟩ = some u)
    (hgp : w0.heap.size ≤ gp) (hgp2 : gp < w.heap.size) (hpl : ∀ i (hi : i < ys.length), ∃ p : Nat, w.cell? ⟨gp, i, none⟩ = some (.int .i64 p) ∧ Behind (fun x : It => x.1) xs ys[i] p) (hys : ys.Pairwise (fun x y => (fun x : It => x.1) x ≤ (fun x : It => x.1) y)) :
    Calls Try.prog 45 #[.pointer (some ⟨b, 0, none⟩), .slice pa ys.length ca, .slice (some ⟨gp, 0, none⟩) ys.length cp] w fun e w' => e = .returned (.tuple #[]) ∧ ∃ sv' R, BagST w' b sv' R ∧ Ins (fun x : It => x.1) xs ys R ∧ (sv'.ownBlock = sv.ownBlock ∨ ∀ g, sv'.ownBlock = some g → w.heap.size ≤ g) ∧ Touch b sv.ownBlock w w' := by
  have hle := hgp
  by_cases hm : 0 < ys.length
  · obtain ⟨ga, rfl, hga, hga2, hya⟩ := hpa hm
    obtain ⟨ps, hps⟩ : ∃ ps : Nat → Nat, ∀ i (hi : i < ys.length), w.cell? ⟨gp, i, none⟩ = some (.int .i64 (ps i)) ∧ Behind (fun x : It => x.1) xs ys[i] (ps i) :=
      ⟨fun i => if hi : i < ys.length then (hpl i hi).choose else 0, fun i hi => by simp only [hi, dif_pos]; exact (hpl i hi).choose_spec⟩
    refine (weave_T b ga gp ca cp sv xs ys ps w h.box h.row hm hlen hga2 (by omega) (fun e => by have := hsv ga e.symm; omega) hya hgp2 (by omega) (fun e => by have := hsv gp e.symm; omega) (fun i hi => (hps i hi).1) (fun i hi => (hps i hi).2) h.srt hys).mono ?_
    rintro e w' ⟨rfl, g, cap, R, r1, r2, r3, r4, r5⟩
    refine ⟨rfl, .slice (some ⟨g, 0, none⟩) (xs.length + ys.length) cap, R, ⟨r1, by rw [r2.len]; exact r2.row, r4.srt⟩, r4, ?_, r5⟩
    rcases r3 with e | e
    · exact .inl e.symm
    · exact .inr fun g' e' => by
        have : g = g' := by simpa [Value.ownBlock] using e'
        omega
  · obtain rfl : ys = [] := List.eq_nil_of_length_eq_zero (by omega)
    refine (weave0_T b ca cp pa (some ⟨gp, 0, none⟩) sv xs w h.box h.row).mono ?_
    rintro e w' ⟨rfl, hb'⟩
    exact ⟨rfl, sv, xs, h.below hb', ⟨by simp, h.srt, fun k => by simp⟩, .inl rfl, Touch.below hb'⟩

set_option maxHeartbeats 8000000 in
set_option maxRecDepth 100000 in
theorem put_T (b cl : Nat) (pl : Option Addr) (sv : Value) (xs ys : List It) (w : World) (h : BagST w b sv xs) (hy : InList It.cells w pl ys) (hlen : xs.length + ys.length ≤ 1000000) :
    Calls Try.prog 19 #[.pointer (some ⟨b, 0, none⟩), .slice pl ys.length cl] w fun e w' => e = .returned (.tuple #[]) ∧ ∃ sv' R, BagST w' b sv' R ∧ Ins (fun x : It => x.1) xs ys R ∧ (sv'.ownBlock = sv.ownBlock ∨ ∀ g, sv'.ownBlock = some g → w.heap.size ≤ g) ∧ Touch b sv.ownBlock w w' := by
  have KC := clone_T pl cl ys w hy (by omega)
  have HBAG := Lib.hid (And.intro h (And.intro hlen h.lt))
  clear hy h hlen
  go_enter Try.func19, Try.ntmps19
  go_wp2_with fail
  refine KC.mono ?_
  rintro e w1 ⟨hb1, pa, ca, rfl, hpos⟩
  have KS := sortAny_T w w1 pa ca ys hb1 (by have := HBAG.out.2.1; omega) hpos
  have c1 := (cell_two (HBAG.out.1.below hb1).box).1
  clear hb1 hpos KC
  go_wp2_with fail
  refine KS.mono ?_
  rintro e w2 ⟨rfl, zs, z1, z2, z3, hb2, hpos2⟩
  have hmk := makeInts ys.length (by have := HBAG.out.2.1; omega)
  have HZ := Lib.hid (And.intro z1 (And.intro z2 (And.intro z3 (And.intro hb2 hpos2))))
  clear z1 z2 z3 hb2 hpos2 KS c1
  go_wp2
  go_loopw [23] (fun v wr => ∃ k : Nat, v = .int .i64 k ∧ k ≤ ys.length ∧ Hid (Placed (fun x : It => x.1) xs zs w2.heap.size (w2.alloc (.cells (madeCells #[.int .i64 0] ys.length) 3)) k wr)) (fun v _ => ys.length - (intOf v).toNat)
  case atStart => exact ⟨0, rfl, Nat.zero_le _, Placed.start (by rw [HZ.out.1]; exact size_madeCells _ _)⟩
  case round =>
    obtain ⟨k, rfl, hk, HP⟩ := hrel
    obtain ⟨z1, z2, z3, hb2, hpos2⟩ := HZ.out
    obtain ⟨hbag, hlen, hblt, hsvlt⟩ := HBAG.out
    have hp : Placed (fun x : It => x.1) xs zs w2.heap.size (w2.alloc (.cells (madeCells #[.int .i64 0] ys.length) 3)) k wr := HP.out
    have hs2 := hb2.size
    have hsr : w2.heap.size + 1 ≤ wr.heap.size := by have := hp.size; simpa using this
    have hkeep : ∀ j, j < w.heap.size → wr.heap[j]? = w.heap[j]? := fun j hj => (hp.block j (by simp; omega) (by omega)).trans ((Below.heap_alloc _ _ _ (by omega)).trans (hb2.block j hj))
    have hbw : Below w.heap.size w wr := ⟨hp.os.trans hb2.os, hp.tape.trans hb2.tape, hp.output.trans hb2.output, by omega, hkeep⟩
    have hbagr := hbag.below hbw
    by_cases hlt : k < ys.length
    · have hkz : k < zs.length := by omega
      obtain ⟨ga, rfl, hga, hga2, hga3⟩ := hpos2 (by omega)
      have hga3 : ∀ j u, (zs.flatMap It.cells)[j]? = some u → (w2.alloc (.cells (madeCells #[.int .i64 0] ys.length) 3)).cell? ⟨ga, j, none⟩ = some u := fun j u hu => by
        rw [← hga3 j u hu]
        exact World.cell?_of_block (Below.heap_alloc _ _ _ hga2)
      obtain ⟨y, hy⟩ : ∃ y, zs[k] = y := ⟨_, rfl⟩
      have y1 : wr.cell? ⟨ga, k * 2, none⟩ = some (.int .i64 y.1) := by
        have := hga3 (k * 2) (.int .i64 y.1) (by
          have := flat_get cT_len zs k 0 hkz (by omega)
          rw [Nat.add_zero] at this
          rw [this, hy]
          rfl)
        rw [← this]
        exact World.cell?_of_block (hp.block ga (by simp; omega) (by omega))
      have y2 : wr.cell? ⟨ga, k * 2 + 1, none⟩ = some (.int .i64 y.2) := by
        have := hga3 (k * 2 + 1) (.int .i64 y.2) (by
          have := flat_get cT_len zs k 1 hkz (by omega)
          rw [this, hy]
          rfl)
        rw [← this]
        exact World.cell?_of_block (hp.block ga (by simp; omega) (by omega))
      have hkl : (k : Int) < (ys.length : Int) := by omega
      have KB := Lib.hid fun (W : World) (hbW : Below wr.heap.size wr W) => by
        obtain ⟨p, cap, c0, c1, hc, hmn⟩ := seek_facts_T (hbagr.below hbW).bag
        exact behind_T b xs.length cap p (fun i => xs.getD i default) y W c0 c1 (by omega) hc hmn
      have HY := Lib.hid (And.intro hp (And.intro (show k < zs.length ∧ ∀ h : k < zs.length, zs[k]'h = y from ⟨hkz, fun _ => hy⟩) hsr))
      clear hp hy hkz hsr z1 z2 z3 hb2 hpos2 hbag hlen hblt hsvlt hs2 hkeep hbw hbagr hga hga2 hga3 HP
      go_wp2_with fail
      refine (KB.out _ ?bl).mono ?_
      case bl => first | exact Below.refl _ _ | exact bA' (Below.refl _ _) (Nat.le_refl _) _
      rintro e wb ⟨⟨c, rfl, hc1, hc2, hc3⟩, hbb⟩
      have hbr : Below wr.heap.size wr wb := bT2 (bA' (Below.refl _ _) (Nat.le_refl _) _) hbb
      obtain ⟨hp, ⟨hkz, hy⟩, hsr⟩ := HY.out
      obtain ⟨⟨u, f1⟩, f2⟩ := hp.facts hbr hkz
      have HS := Lib.hid (hp.step hbr hkz (p := c) (by rw [hy hkz]; exact behind_of (key := (fun x : It => x.1)) hc1 (fun i hi => by have := hc2 i hi; first | omega | (dsimp only; omega)) (fun i h1 h2 => by have := hc3 i h1 h2; first | omega | (dsimp only; omega))))
      clear hp hy hkz hsr hbr hc1 hc2 hc3 hbb KB HY y1 y2
      have hbd : ys.length ≤ 1000000 := by have := HBAG.out.2.1; omega
      go_wp2
      exact ⟨⟨k + 1, by go_num, by omega, HS⟩, by simp [intOf]; omega⟩
    · obtain rfl : k = ys.length := by omega
      obtain ⟨cur, q1, q2, q3⟩ := hp.row
      have KW := weaveAny_T w wr b w2.heap.size ca ys.length pa sv xs zs hbagr (by omega) hblt hsvlt (fun h0 => by
        obtain ⟨ga, e, g1, g2, g3⟩ := hpos2 (by omega)
        exact ⟨ga, e, g1, by omega, fun j u hu => by
          rw [← g3 j u hu]
          exact World.cell?_of_block ((hp.block ga (by simp; omega) (by omega)).trans (Below.heap_alloc _ _ _ g2))⟩) hs2 (by omega) (fun i hi => by
        obtain ⟨p, p1, p2⟩ := q3 i hi (by omega)
        exact ⟨p, by rw [cell_of_row _ _ _ _ _ _ q1]; exact p1, p2⟩) z2
      rw [z1] at KW
      have HX := Lib.hid (And.intro z1 (And.intro z3 (And.intro hbw (And.intro hsr hs2))))
      clear z1 z2 z3 hb2 hpos2 hbag hlen hblt hsvlt hs2 hkeep hbw hbagr hp hsr q1 q2 q3 HP
      go_wp2_with fail
      refine KW.mono ?_
      rintro e w' ⟨rfl, sv', R, r1, r2, r3, r4⟩
      have HE := Lib.hid (And.intro r1 (And.intro r2 (And.intro r3 r4)))
      clear r1 r2 r3 r4 KW
      go_wp2
      go_end0
      obtain ⟨r1, r2, r3, r4⟩ := HE.out
      obtain ⟨z1, z3, hbw, hsr, hs2⟩ := HX.out
      refine ⟨rfl, sv', R, r1, ⟨by rw [r2.len, z1], r2.srt, fun k => by rw [r2.flt, z3]⟩, ?_, (Touch.below hbw).trans r4 (.inl rfl)⟩
      rcases r3 with e | e
      · exact .inl e
      · exact .inr fun g hg => by have := e g hg; omega
end Go.Proofs.Ytfjipkkhjjpaiaa
