/-
  bag's Put at ints over this seat's translation. Conditions: those that each theorem states.
-/
import Derived.Test.YtfjipkkhjjpaiaaWeave0I
namespace Go.Proofs.Ytfjipkkhjjpaiaa
open Go.RowKit Go.Shelf Go.Lib Go.Sort St

/-- A bag in block b, whose row's value is sv. -/
structure BagSI (W : World) (b : Nat) (sv : Value) (xs : List Int) : Prop where
  box : W.heap[b]? = some (.cells #[.func (.func 11) #[] #[], sv] 71 (0, 0))
  row : W.ownsRow 0 3 1 sv xs.length (xs.flatMap cI)
  srt : xs.Pairwise (fun x y => (fun x : Int => x) x ≤ (fun x : Int => x) y)
theorem BagSI.lt {W : World} {b : Nat} {sv : Value} {xs : List Int} (h : BagSI W b sv xs) : b < W.heap.size ∧ ∀ g, sv.ownBlock = some g → g < W.heap.size := ⟨(Array.getElem?_eq_some_iff.1 h.box).1, fun g e => (h.row.lt g e).2⟩
theorem BagSI.same {W W' : World} {b : Nat} {sv : Value} {xs : List Int} (h : BagSI W b sv xs) (h1 : W'.heap[b]? = W.heap[b]?) (h2 : ∀ g, sv.ownBlock = some g → W'.heap[g]? = W.heap[g]?) : BagSI W' b sv xs := by
  refine ⟨h1.trans h.box, ⟨h.row.1, ?_⟩, h.srt⟩
  rcases h.row.2 with h3 | ⟨g, cap, cur, e, hB, hg, rest⟩
  · exact .inl h3
  · exact .inr ⟨g, cap, cur, e, hB, (h2 g (by rw [e]; rfl)).trans hg, rest⟩
theorem BagSI.below {W W' : World} {b : Nat} {sv : Value} {xs : List Int} (h : BagSI W b sv xs) (hb : Below W.heap.size W W') : BagSI W' b sv xs := h.same (hb.block _ h.lt.1) fun g e => hb.block _ (h.lt.2 g e)
theorem BagSI.bag {W : World} {b : Nat} {sv : Value} {xs : List Int} (h : BagSI W b sv xs) : BagI W b 0 xs := ⟨⟨sv, h.box, by rw [map_cI]; exact h.row⟩, Nat.zero_le _, h.srt⟩

theorem makeInts (n : Nat) (hn : n ≤ 1000000) (w : World) :
    (Instr.makeSlice 22 (.int .i64 (n : Int)) (.int .i64 (n : Int))).run Try.prog w = .ok (.slice (some ⟨w.heap.size, 0, none⟩) n n) (w.alloc (.cells (madeCells #[.int .i64 0] n) 3)) := by
  obtain ⟨i, hi, hzz⟩ := Option.map_eq_some_iff.1 infoI
  simp only [Prod.mk.injEq] at hzz
  obtain ⟨hz, hs, hb⟩ := hzz
  have h := run_make (P := Try.prog) w 22 3 i _ Try.underlying22 hi hz .i64 .i64 n n (by omega) (Int.le_refl _) (by rw [hb]; omega) (by omega)
  rw [hs] at h
  simp only [Int.toNat_natCast, Nat.mul_one] at h
  exact h
theorem behind_of {α : Type} [Inhabited α] {key : α → Int} {xs : List α} {y : α} {c : Nat} (h1 : c ≤ xs.length) (h2 : ∀ i, i < c → ¬ key y < key (xs.getD i default)) (h3 : ∀ i, c ≤ i → i < xs.length → key y < key (xs.getD i default)) : Behind key xs y c := by
  have hd : ∀ i (hi : i < xs.length), xs.getD i default = xs[i] := fun i hi => by rw [List.getD_eq_getElem?_getD, List.getElem?_eq_getElem hi]; rfl
  refine ⟨h1, fun x hx => ?_, fun x hx => ?_⟩
  · obtain ⟨i, hi, rfl⟩ := List.mem_take_iff_getElem.1 hx
    have := h2 i (by omega)
    rw [hd i (by omega)] at this
    exact Int.not_lt.1 this
  · obtain ⟨i, hi, rfl⟩ := List.mem_drop_iff_getElem.1 hx
    have := h3 (c + i) (by omega) (by omega)
    rw [hd _ (by omega)] at this
    exact this
/-- The places so far. -/
structure Placed {α : Type} (key : α → Int) (xs zs : List α) (gp : Nat) (w : World) (k : Nat) (wr : World) : Prop where
  os : wr.os = w.os
  tape : wr.tape = w.tape
  output : wr.output = w.output
  size : w.heap.size ≤ wr.heap.size
  block : ∀ j, j < w.heap.size → j ≠ gp → wr.heap[j]? = w.heap[j]?
  row : ∃ cur : Array Value, wr.heap[gp]? = some (.cells cur 3 (0, 0)) ∧ cur.size = zs.length ∧ ∀ j (hj : j < zs.length), j < k → ∃ p : Nat, cur[j]? = some (.int .i64 p) ∧ Behind key xs zs[j] p
theorem Placed.start {α : Type} {key : α → Int} {xs zs : List α} {w : World} {cs : Array Value} (hs : cs.size = zs.length) : Placed key xs zs w.heap.size (w.alloc (.cells cs 3)) 0 (w.alloc (.cells cs 3)) :=
  ⟨rfl, rfl, rfl, Nat.le_refl _, fun _ _ _ => rfl, cs, World.alloc_heap_new w _, hs, fun j hj h => by omega⟩
theorem Placed.facts {α : Type} {key : α → Int} {xs zs : List α} {gp k : Nat} {w wr wb : World} (h : Placed key xs zs gp w k wr) (hb : Below wr.heap.size wr wb) (hk : k < zs.length) : (∃ u, wb.cell? ⟨gp, k, none⟩ = some u) ∧ wb.frozen? ⟨gp, k, none⟩ = false := by
  obtain ⟨cur, h1, h2, _⟩ := h.row
  have h3 := (hb.block _ (Array.getElem?_eq_some_iff.1 h1).1).trans h1
  refine ⟨⟨cur[k]'(by omega), ?_⟩, frozen_of_row _ _ _ _ _ h3⟩
  rw [cell_of_row _ _ _ _ _ _ h3]
  exact Array.getElem?_eq_getElem (by omega)
theorem Placed.step {α : Type} {key : α → Int} {xs zs : List α} {gp k p : Nat} {w wr wb : World} (h : Placed key xs zs gp w k wr) (hb : Below wr.heap.size wr wb) (hk : k < zs.length) (hp : Behind key xs zs[k] p) : Placed key xs zs gp w (k + 1) (wb.setCell ⟨gp, k, none⟩ (.int .i64 p)) := by
  obtain ⟨cur, h1, h2, h3⟩ := h.row
  have h4 := (hb.block _ (Array.getElem?_eq_some_iff.1 h1).1).trans h1
  refine ⟨hb.os.trans h.os, hb.tape.trans h.tape, hb.output.trans h.output, by have := h.size; have := hb.size; simp; omega, fun j hj hne => (heap_setCell_other _ ⟨gp, k, none⟩ j _ hne).trans ((hb.block j (by have := h.size; omega)).trans (h.block j hj hne)), _, heap_setCell_same _ gp k _ _ _ h4, by simpa using h2, fun j hj hlt => ?_⟩
  by_cases e : j = k
  · subst e
    exact ⟨p, by simp [h2, hk], hp⟩
  · obtain ⟨q, hq, hq2⟩ := h3 j hj (by omega)
    exact ⟨q, by rw [Array.getElem?_setIfInBounds_ne (Ne.symm e)]; exact hq, hq2⟩

theorem sortAny_I (w0 w1 : World) (pa : Option Addr) (ca : Nat) (ys : List Int) (hb1 : Below w0.heap.size w0 w1) (hlen : ys.length ≤ 1000000) (hpos : 0 < ys.length → ∃ ga, pa = some ⟨ga, 0, none⟩ ∧ w0.heap.size ≤ ga ∧ RowIs cI 1 3 ga ys.length ca w1 ys) :
    Calls Try.prog 51 #[.slice pa ys.length ca, .func (.func 11) #[] #[]] w1 fun e w' => e = .returned (.tuple #[]) ∧ ∃ zs : List Int, zs.length = ys.length ∧ zs.Pairwise (fun x y => (fun x : Int => x) x ≤ (fun x : Int => x) y) ∧ (∀ k : Int, zs.filter (fun x => (fun x : Int => x) x == k) = ys.filter (fun x => (fun x : Int => x) x == k)) ∧ Below w0.heap.size w0 w' ∧
      (0 < ys.length → ∃ ga, pa = some ⟨ga, 0, none⟩ ∧ w0.heap.size ≤ ga ∧ ga < w'.heap.size ∧ ∀ j u, (zs.flatMap cI)[j]? = some u → w'.cell? ⟨ga, j, none⟩ = some u) := by
  by_cases hm : 0 < ys.length
  · obtain ⟨ga, rfl, hga, hrow⟩ := hpos hm
    refine (sort_I ga ca ys w1 hrow hlen).mono ?_
    rintro e w' ⟨rfl, zs, z1, z2, z3, z4, z5⟩
    obtain ⟨cur, hc, _⟩ := hrow.whole
    exact ⟨rfl, zs, z1, z2, z3, hb1.trans (z5.below_of hb1.size hga (fun g e => by cases e)), fun _ => ⟨ga, rfl, hga, Nat.lt_of_lt_of_le (Array.getElem?_eq_some_iff.1 hc).1 z5.size, z4⟩⟩
  · obtain rfl : ys = [] := List.eq_nil_of_length_eq_zero (by omega)
    refine (sortNil_I pa ca (.func 11) w1).mono ?_
    rintro e w' ⟨rfl, rfl⟩
    exact ⟨rfl, [], rfl, .nil, fun _ => rfl, hb1, fun h => absurd h (Nat.lt_irrefl 0)⟩

theorem weaveAny_I (w0 w : World) (b gp ca cp : Nat) (pa : Option Addr) (sv : Value) (xs ys : List Int) (h : BagSI w b sv xs) (hlen : xs.length + ys.length ≤ 1000000) (hb : b < w0.heap.size) (hsv : ∀ g, sv.ownBlock = some g → g < w0.heap.size)
    (hpa : 0 < ys.length → ∃ ga, pa = some ⟨ga, 0, none⟩ ∧ w0.heap.size ≤ ga ∧ ga < w.heap.size ∧ ∀ j u, (ys.flatMap cI)[j]? = some u → w.cell? ⟨ga, j, none⟩ = some u)
    (hgp : w0.heap.size ≤ gp) (hgp2 : gp < w.heap.size) (hpl : ∀ i (hi : i < ys.length), ∃ p : Nat, w.cell? ⟨gp, i, none⟩ = some (.int .i64 p) ∧ Behind (fun x : Int => x) xs ys[i] p) (hys : ys.Pairwise (fun x y => (fun x : Int => x) x ≤ (fun x : Int => x) y)) :
    Calls Try.prog 52 #[.pointer (some ⟨b, 0, none⟩), .slice pa ys.length ca, .slice (some ⟨gp, 0, none⟩) ys.length cp] w fun e w' => e = .returned (.tuple #[]) ∧ ∃ sv' R, BagSI w' b sv' R ∧ Ins (fun x : Int => x) xs ys R ∧ (sv'.ownBlock = sv.ownBlock ∨ ∀ g, sv'.ownBlock = some g → w.heap.size ≤ g) ∧ Touch b sv.ownBlock w w' := by
  have hle := hgp
  by_cases hm : 0 < ys.length
  · obtain ⟨ga, rfl, hga, hga2, hya⟩ := hpa hm
    obtain ⟨ps, hps⟩ : ∃ ps : Nat → Nat, ∀ i (hi : i < ys.length), w.cell? ⟨gp, i, none⟩ = some (.int .i64 (ps i)) ∧ Behind (fun x : Int => x) xs ys[i] (ps i) :=
      ⟨fun i => if hi : i < ys.length then (hpl i hi).choose else 0, fun i hi => by simp only [hi, dif_pos]; exact (hpl i hi).choose_spec⟩
    refine (weave_I b ga gp ca cp sv xs ys ps w h.box h.row hm hlen hga2 (by omega) (fun e => by have := hsv ga e.symm; omega) hya hgp2 (by omega) (fun e => by have := hsv gp e.symm; omega) (fun i hi => (hps i hi).1) (fun i hi => (hps i hi).2) h.srt hys).mono ?_
    rintro e w' ⟨rfl, g, cap, R, r1, r2, r3, r4, r5⟩
    refine ⟨rfl, .slice (some ⟨g, 0, none⟩) (xs.length + ys.length) cap, R, ⟨r1, by rw [r2.len]; exact r2.row, r4.srt⟩, r4, ?_, r5⟩
    rcases r3 with e | e
    · exact .inl e.symm
    · exact .inr fun g' e' => by
        have : g = g' := by simpa [Value.ownBlock] using e'
        omega
  · obtain rfl : ys = [] := List.eq_nil_of_length_eq_zero (by omega)
    refine (weave0_I b ca cp pa (some ⟨gp, 0, none⟩) sv xs w h.box h.row).mono ?_
    rintro e w' ⟨rfl, hb'⟩
    exact ⟨rfl, sv, xs, h.below hb', ⟨by simp, h.srt, fun k => by simp⟩, .inl rfl, Touch.below hb'⟩

set_option maxHeartbeats 8000000 in
set_option maxRecDepth 100000 in
theorem put_I (b cl : Nat) (pl : Option Addr) (sv : Value) (xs ys : List Int) (w : World) (h : BagSI w b sv xs) (hy : InList cI w pl ys) (hlen : xs.length + ys.length ≤ 1000000) :
    Calls Try.prog 33 #[.pointer (some ⟨b, 0, none⟩), .slice pl ys.length cl] w fun e w' => e = .returned (.tuple #[]) ∧ ∃ sv' R, BagSI w' b sv' R ∧ Ins (fun x : Int => x) xs ys R ∧ (sv'.ownBlock = sv.ownBlock ∨ ∀ g, sv'.ownBlock = some g → w.heap.size ≤ g) ∧ Touch b sv.ownBlock w w' := by
  have KC := clone_I pl cl ys w hy (by omega)
  have HBAG := Lib.hid (And.intro h (And.intro hlen h.lt))
  clear hy h hlen
  go_enter Try.func33, Try.ntmps33
  go_wp2_with fail
  refine KC.mono ?_
  rintro e w1 ⟨hb1, pa, ca, rfl, hpos⟩
  have KS := sortAny_I w w1 pa ca ys hb1 (by have := HBAG.out.2.1; omega) hpos
  have c1 := (cell_two (HBAG.out.1.below hb1).box).1
  clear hb1 hpos KC
  go_wp2_with fail
  refine KS.mono ?_
  rintro e w2 ⟨rfl, zs, z1, z2, z3, hb2, hpos2⟩
  have hmk := makeInts ys.length (by have := HBAG.out.2.1; omega)
  have HZ := Lib.hid (And.intro z1 (And.intro z2 (And.intro z3 (And.intro hb2 hpos2))))
  clear z1 z2 z3 hb2 hpos2 KS c1
  go_wp2
  go_loopw [23] (fun v wr => ∃ k : Nat, v = .int .i64 k ∧ k ≤ ys.length ∧ Hid (Placed (fun x : Int => x) xs zs w2.heap.size (w2.alloc (.cells (madeCells #[.int .i64 0] ys.length) 3)) k wr)) (fun v _ => ys.length - (intOf v).toNat)
  case atStart => exact ⟨0, rfl, Nat.zero_le _, Placed.start (by rw [HZ.out.1]; exact size_madeCells _ _)⟩
  case round =>
    obtain ⟨k, rfl, hk, HP⟩ := hrel
    obtain ⟨z1, z2, z3, hb2, hpos2⟩ := HZ.out
    obtain ⟨hbag, hlen, hblt, hsvlt⟩ := HBAG.out
    have hp : Placed (fun x : Int => x) xs zs w2.heap.size (w2.alloc (.cells (madeCells #[.int .i64 0] ys.length) 3)) k wr := HP.out
    have hs2 := hb2.size
    have hsr : w2.heap.size + 1 ≤ wr.heap.size := by have := hp.size; simpa using this
    have hkeep : ∀ j, j < w.heap.size → wr.heap[j]? = w.heap[j]? := fun j hj => (hp.block j (by simp; omega) (by omega)).trans ((Below.heap_alloc _ _ _ (by omega)).trans (hb2.block j hj))
    have hbw : Below w.heap.size w wr := ⟨hp.os.trans hb2.os, hp.tape.trans hb2.tape, hp.output.trans hb2.output, by omega, hkeep⟩
    have hbagr := hbag.below hbw
    by_cases hlt : k < ys.length
    · have hkz : k < zs.length := by omega
      obtain ⟨ga, rfl, hga, hga2, hga3⟩ := hpos2 (by omega)
      have hga3 : ∀ j u, (zs.flatMap cI)[j]? = some u → (w2.alloc (.cells (madeCells #[.int .i64 0] ys.length) 3)).cell? ⟨ga, j, none⟩ = some u := fun j u hu => by
        rw [← hga3 j u hu]
        exact World.cell?_of_block (Below.heap_alloc _ _ _ hga2)
      obtain ⟨y, hy⟩ : ∃ y, zs[k] = y := ⟨_, rfl⟩
      have y1 : wr.cell? ⟨ga, k, none⟩ = some (.int .i64 y) := by
        have := hga3 k (.int .i64 y) (by
          have := flat_get cI_len zs k 0 hkz (by omega)
          rw [Nat.mul_one, Nat.add_zero] at this
          rw [this, hy]
          rfl)
        rw [← this]
        exact World.cell?_of_block (hp.block ga (by simp; omega) (by omega))
      have hkl : (k : Int) < (ys.length : Int) := by omega
      have KB := Lib.hid fun (W : World) (hbW : Below wr.heap.size wr W) => by
        obtain ⟨p, cap, c0, c1, hc, hmn⟩ := seek_facts_I (hbagr.below hbW).bag
        exact behind_I b xs.length cap p (fun i => xs.getD i default) y W c0 c1 (by omega) hc hmn
      have HY := Lib.hid (And.intro hp (And.intro (show k < zs.length ∧ ∀ h : k < zs.length, zs[k]'h = y from ⟨hkz, fun _ => hy⟩) hsr))
      clear hp hy hkz hsr z1 z2 z3 hb2 hpos2 hbag hlen hblt hsvlt hs2 hkeep hbw hbagr hga hga2 hga3 HP
      go_wp2_with fail
      refine (KB.out _ ?bl).mono ?_
      case bl => first | exact Below.refl _ _ | exact bA' (Below.refl _ _) (Nat.le_refl _) _
      rintro e wb ⟨⟨c, rfl, hc1, hc2, hc3⟩, hbb⟩
      have hbr : Below wr.heap.size wr wb := hbb
      obtain ⟨hp, ⟨hkz, hy⟩, hsr⟩ := HY.out
      obtain ⟨⟨u, f1⟩, f2⟩ := hp.facts hbr hkz
      have HS := Lib.hid (hp.step hbr hkz (p := c) (by rw [hy hkz]; exact behind_of (key := (fun x : Int => x)) hc1 (fun i hi => by have := hc2 i hi; first | omega | (dsimp only; omega)) (fun i h1 h2 => by have := hc3 i h1 h2; first | omega | (dsimp only; omega))))
      clear hp hy hkz hsr hbr hc1 hc2 hc3 hbb KB HY y1
      have hbd : ys.length ≤ 1000000 := by have := HBAG.out.2.1; omega
      go_wp2
      exact ⟨⟨k + 1, by go_num, by omega, HS⟩, by simp [intOf]; omega⟩
    · obtain rfl : k = ys.length := by omega
      obtain ⟨cur, q1, q2, q3⟩ := hp.row
      have KW := weaveAny_I w wr b w2.heap.size ca ys.length pa sv xs zs hbagr (by omega) hblt hsvlt (fun h0 => by
        obtain ⟨ga, e, g1, g2, g3⟩ := hpos2 (by omega)
        exact ⟨ga, e, g1, by omega, fun j u hu => by
          rw [← g3 j u hu]
          exact World.cell?_of_block ((hp.block ga (by simp; omega) (by omega)).trans (Below.heap_alloc _ _ _ g2))⟩) hs2 (by omega) (fun i hi => by
        obtain ⟨p, p1, p2⟩ := q3 i hi (by omega)
        exact ⟨p, by rw [cell_of_row _ _ _ _ _ _ q1]; exact p1, p2⟩) z2
      rw [z1] at KW
      have HX := Lib.hid (And.intro z1 (And.intro z3 (And.intro hbw (And.intro hsr hs2))))
      clear z1 z2 z3 hb2 hpos2 hbag hlen hblt hsvlt hs2 hkeep hbw hbagr hp hsr q1 q2 q3 HP
      go_wp2_with fail
      refine KW.mono ?_
      rintro e w' ⟨rfl, sv', R, r1, r2, r3, r4⟩
      have HE := Lib.hid (And.intro r1 (And.intro r2 (And.intro r3 r4)))
      clear r1 r2 r3 r4 KW
      go_wp2
      go_end0
      obtain ⟨r1, r2, r3, r4⟩ := HE.out
      obtain ⟨z1, z3, hbw, hsr, hs2⟩ := HX.out
      refine ⟨rfl, sv', R, r1, ⟨by rw [r2.len, z1], r2.srt, fun k => by rw [r2.flt, z3]⟩, ?_, (Touch.below hbw).trans r4 (.inl rfl)⟩
      rcases r3 with e | e
      · exact .inl e
      · exact .inr fun g hg => by have := e g hg; omega
end Go.Proofs.Ytfjipkkhjjpaiaa
