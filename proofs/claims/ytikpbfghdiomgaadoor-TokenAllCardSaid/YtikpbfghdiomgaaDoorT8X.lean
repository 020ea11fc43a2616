/-
  The law TokenAll over this seat's translation. Conditions: those that each theorem states.
-/
import Derived.Test.YtikpbfghdiomgaaDoorT8W
import Derived.Sort.QuietIn
namespace Go.Proofs.YtikpbfghdiomgaaDoor
open Go.RowKit Go.Shelf Go.Lib Go.Sort Tk
attribute [local go_sem] Oper.semAt_some

/-- A region that draws its order and only reads, in a round, runs in the text's order. -/
theorem region_round_quiet8 {P : Program} {id : Nat} {Q : Exit → Act → World → Prop} {a : Act} {w : World} {ops : List Oper} {l : Nat} (hm : P.follows .mixedOrders = true) (hd : noDefer ops.toArray = true) (hB : Region.lexB .any ops.toArray = true)
    (h : wpQuietIn Fence.wide 0 P ops.toArray (fun w' => ∃ n, w' = w.drewN n) (fun a' => ∀ w', (∃ n, w' = w.drewN n) → Q .normal a' w') ops a) : (Code.region id ops.toArray true).wpIn (Fence.wide.inRound l) 0 P Q a w := by
  simp only [Region.lexB, Bool.and_eq_true] at hB
  refine region_round hm hd (wpAnyIn_of_quiet (C := fun w' => ∃ n, w' = w.drewN n) (Q := fun a' => ∀ w', (∃ n, w' = w.drewN n) → Q .normal a' w') (Q' := NoPanic Q) rfl (fun _ w' hw' h => h w' hw') _ _ _ _ (show ∃ n, w.drew = w.drewN n from ⟨1, rfl⟩) ?_)
  have := wpAnyQIn_lex (F := Fence.wide) (n := 0) (P := P) (C := fun w' => ∃ n, w' = w.drewN n) (md := .any) hB.1 ops 0 (Array.replicate ops.toArray.size false) a (by simp) (by simpa using hB.2) h
  simpa using this
/-- The worlds ahead of the range statement. -/
theorem all_start (n : Int) (w : World) : ∃ Wa, (w.alloc (.cells #[.int .u8 n] 5)).alloc (.cells #[.bool false] 4) = Wa ∧ Below w.heap.size w Wa ∧ Wa.heap.size = w.heap.size + 2 ∧ Wa.heap[w.heap.size]? = some (objU n) ∧ Wa.heap[w.heap.size + 1]? = some (objB false) := by
  refine ⟨_, rfl, (bA8 (Below.refl _ w) (Nat.le_refl _) _).alloc (by simp) _, by simp, ?_, ?_⟩
  · rw [Below.heap_alloc _ _ _ (by simp)]
    exact World.alloc_heap_new w _
  · have := World.alloc_heap_new (w.alloc (.cells #[.int .u8 n] 5)) (.cells #[.bool false] 4)
    simpa using this
theorem all_mid (vl : Value) (z er : Int) (s : ByteArray) (w : World) : ∃ W0, ((((w.alloc (.cells #[vl] 23)).alloc (.cells #[.int .i64 z] 3)).alloc (.cells #[.int .i64 er] 24)).alloc (.cells #[.int .i64 0] 3)).alloc (.cells #[.string s] 9) = W0 ∧
    W0.heap.size = w.heap.size + 5 ∧ Below w.heap.size w W0 ∧ W0.heap[w.heap.size]? = some (objT vl) ∧ W0.heap[w.heap.size + 1]? = some (objI z) ∧ W0.heap[w.heap.size + 2]? = some (objE er) ∧ W0.heap[w.heap.size + 3]? = some (objI 0) ∧ W0.heap[w.heap.size + 4]? = some (.cells #[.string s] 9 (0, 0)) := by
  refine ⟨_, rfl, by simp, ((((bA8 (Below.refl _ w) (Nat.le_refl _) _).alloc (by simp <;> omega) _).alloc (by simp <;> omega) _).alloc (by simp <;> omega) _).alloc (by simp <;> omega) _, ?_, ?_, ?_, ?_, ?_⟩
  · rw [Below.heap_alloc _ _ _ (by simp <;> omega), Below.heap_alloc _ _ _ (by simp <;> omega), Below.heap_alloc _ _ _ (by simp <;> omega), Below.heap_alloc _ _ _ (by simp <;> omega)]
    exact World.alloc_heap_new w _
  · rw [Below.heap_alloc _ _ _ (by simp <;> omega), Below.heap_alloc _ _ _ (by simp <;> omega), Below.heap_alloc _ _ _ (by simp <;> omega)]
    have := World.alloc_heap_new (w.alloc (.cells #[vl] 23)) (.cells #[.int .i64 z] 3)
    simpa using this
  · rw [Below.heap_alloc _ _ _ (by simp <;> omega), Below.heap_alloc _ _ _ (by simp <;> omega)]
    have := World.alloc_heap_new ((w.alloc (.cells #[vl] 23)).alloc (.cells #[.int .i64 z] 3)) (.cells #[.int .i64 er] 24)
    simpa using this
  · rw [Below.heap_alloc _ _ _ (by simp <;> omega)]
    have := World.alloc_heap_new (((w.alloc (.cells #[vl] 23)).alloc (.cells #[.int .i64 z] 3)).alloc (.cells #[.int .i64 er] 24)) (.cells #[.int .i64 0] 3)
    simpa using this
  · have := World.alloc_heap_new ((((w.alloc (.cells #[vl] 23)).alloc (.cells #[.int .i64 z] 3)).alloc (.cells #[.int .i64 er] 24)).alloc (.cells #[.int .i64 0] 3)) (.cells #[.string s] 9)
    simpa using this

set_option maxHeartbeats 16000000 in
set_option maxRecDepth 100000 in
theorem all8_c (s : ByteArray) (hmax : s.size ≤ 9223372036854775807) (n : Nat) (hn : n < 256) (w : World) (he : Env8 w) :
    Calls Tryd.prog 5 #[.string s, .int .u8 (n : Int)] w fun e w' => e = .returned (.bool true) ∧ Below w.heap.size w w' := by
  have hmx : Tryd.prog.follows .mixedOrders = true := by kernel_rfl
  obtain ⟨Wa, hWa, hba, hsa, hcs, hcr⟩ := all_start (n : Int) w
  have hm1 : 0 < w.heap.size := World.block_lt_of_cell? _ _ (he.marks 0 (by decide))
  have hm2 : 2 < w.heap.size := by
    obtain ⟨ev, h2, _⟩ := he.rng
    exact World.block_lt_of_cell? _ _ h2
  have HE := Lib.hid fun w1 (hb : Below w.heap.size w w1) => he.keep hb
  have HWA := Lib.hid hWa
  have HA0 := Lib.hid (And.intro hba (And.intro hsa (And.intro hcs (And.intro hcr (And.intro hm1 hm2)))))
  have hwn : IntKind.i64.wrap (n : Int) = (n : Int) := by rw [IntKind.wrap_i64] <;> omega
  clear hWa hba hsa hcs hcr hm1 hm2 he
  refine (callsIn_wide (n := 0)).1 ?_
  refine callsIn_of_wp_marks Tryd.func5 rfl trivial ?_ rfl
  simp only [Tryd.ntmps5, List.size_toArray, List.length_cons, List.length_nil, Nat.reduceAdd, Nat.reduceSub, Array.replicate_succ, Array.replicate_zero, List.push_toArray, List.append_toArray, List.nil_append, List.cons_append]
  by_cases hbig : s.size ≤ 30000
  · have d1 : decide ((s.size : Int) > 30000) = false := decide_eq_false (by omega)
    have d2 : decide (30000 < s.size) = false := decide_eq_false (by omega)
    obtain ⟨L, z, er, hsc⟩ : ∃ L z er, Tk.scan (bs s) = (L, z, er) := ⟨_, _, _, rfl⟩
    have HA := Lib.hid (all_at s hsc)
    have HLN := Lib.hid (show L.length ≤ 16385 from by have := scan_len (bs s); rw [hsc] at this; exact this)
    have HOL := Lib.hid (outs_len (bs s))
    have KS := Lib.hid fun w1 (hb : Below w.heap.size w w1) => tkC.scan s hmax w1 (HE.out w1 hb)
    unfold ScP at KS
    rw [hsc] at KS
    clear hsc hmax
    obtain ⟨Z, hZ⟩ : ∃ Z : Int, (z : Int) = Z := ⟨_, rfl⟩
    simp only [hZ] at KS HA
    obtain ⟨N, hN⟩ : ∃ N, (outs (bs s)).length = N := ⟨_, rfl⟩
    rw [hN] at HA HOL
    have HN := Lib.hid hN
    clear hZ hN
    gi_wp2_with fail
    rw [HWA.out]
    refine ⟨trivial, rfl, ?_⟩
    refine callsIn_wide.2 ((awake8_c _ (HE.out _ HA0.out.1)).mono ?_)
    rintro e w1 ⟨rfl, hb1⟩
    have HB1 := Lib.hid (And.intro hb1 (belowT8 HA0.out.1 hb1))
    clear hb1
    gi_wp2_with fail
    refine ⟨trivial, rfl, ?_⟩
    refine callsIn_wide.2 ((KS.out _ HB1.out.2).mono ?_)
    rintro e w2 ⟨⟨v, rfl, hr⟩, hb2⟩
    obtain ⟨p, c, rfl, hf⟩ := rowW_form hr
    have HR := Lib.hid (And.intro hr hb2)
    clear hr hf hb2
    obtain ⟨len, hlen⟩ : ∃ l, L.length = l := ⟨_, rfl⟩
    have HLEN := Lib.hid hlen
    simp only [hlen]
    rw [hlen] at HR HA HLN
    clear hlen
    obtain ⟨W0, hW0, hs0, hb0, c0, c1, c2, c3, c4⟩ := all_mid (.slice p len c) Z er s w2
    have HW0 := Lib.hid hW0
    have H0 := Lib.hid (And.intro hs0 (And.intro hb0 (And.intro c0 (And.intro c1 (And.intro c2 (And.intro c3 c4))))))
    clear hW0 hs0 hb0 c0 c1 c2 c3 c4
    gi_wp2_with fail
    refine ⟨trivial, rfl, ?_⟩
    refine callsIn_wide.2 ((pall_c s _).mono ?_)
    rintro e W1 ⟨rfl, rfl⟩
    rw [HW0.out]
    gi_wp2_with fail
    simp only [Nat.add_assoc, Nat.reduceAdd]
    have HK0 := Lib.hid (show KaI w w2.heap.size w1.heap.size (n : Int) (.slice p len c) L Z er 0 W0 from by
      obtain ⟨hba, hsa, hcs, hcr, _, _⟩ := HA0.out
      obtain ⟨hs0, hb0, c0, c1, c2, c3, c4⟩ := H0.out
      have hbt : Below Wa.heap.size Wa W0 := belowT8 (belowT8 HB1.out.1 HR.out.2) hb0
      have kb : ∀ {j : Nat} {o : Obj}, Wa.heap[j]? = some o → W0.heap[j]? = some o := fun h => (hbt.block _ (Array.getElem?_eq_some_iff.1 h).1).trans h
      refine ⟨belowT8 hba hbt, kb hcs, kb hcr, c0, c1, c2, c3, ?_, fun g e => (HR.out.1.lt g e).2, by have := HB1.out.1.size; omega, HR.out.2.size⟩
      rw [HLEN.out]
      exact ownsRow_keep8 HR.out.1 fun g e => hb0.block g (HR.out.1.lt g e).2)
    have HSEQ := Lib.hid (all_seq (w2.heap.size + 4) s W0 ⟨H0.out.2.2.2.2.2.2, HE.out _ HK0.out.below⟩)
    rw [arX_eq, HN.out] at HSEQ
    apply range_lawQb (gf := 17) (lb := #[.pointer (some ⟨w2.heap.size + 4, 0, none⟩)]) rfl eg_pall (fun b o h => h.2) HSEQ.out (fun _ => rfl)
      (fun k W => (∀ j, j < k → eX s j = 0) ∧ KaI w w2.heap.size w1.heap.size (n : Int) (.slice p len c) L Z er (k : Int) W) (fun c _ W => c = .ret ∧ KaE w W) ?hI ?hIx ⟨fun j h => absurd h (Nat.not_lt_zero _), HK0.out⟩
      (fun k bx W => W.heap[bx]? = some (box8 (.int .i64 (kX s k)) (.string (sX s k)) (.int .i64 (nX s k)) (.int .i64 (pX s k)))) ?hPx _ ?assign ?body ?done ?stop
    case hI =>
      rintro k A C row ⟨h1, h⟩ hgr hr
      exact ⟨h1, h.own (by have := HK0.out.below.size; omega) hgr hr⟩
    case hIx =>
      rintro c k A C row ⟨hc, h⟩ hgr hr
      exact ⟨hc, h.own (by have := HK0.out.below.size; omega) hgr hr⟩
    case hPx =>
      intro k bx u A C row hb hgr hr
      refine (hgr.block bx (Array.getElem?_eq_some_iff.1 hb).1 fun e => ?_).trans hb
      obtain ⟨_, o, ho, hc⟩ := hr bx e.symm
      rw [hb] at ho
      cases ho
      cases hc
    case assign =>
      rintro l k Wq K ⟨hz, hj⟩ hkN hsz hK
      have hbq := bA8 (Below.refl Wq.heap.size Wq) (Nat.le_refl _) (.cells #[.int .i64 (kX s k), .string (sX s k), .int .i64 (nX s k), .int .i64 (pX s k)] 28)
      have H1 := Lib.hid (And.intro hbq (And.intro (hj.keep hbq) (And.intro hz (World.alloc_heap_new Wq (.cells #[.int .i64 (kX s k), .string (sX s k), .int .i64 (nX s k), .int .i64 (pX s k)] 28)))))
      have HKK := Lib.hid hK
      clear hj hK hbq hz hkN hsz
      unfold arX
      gi_wp2
      obtain ⟨g1, g2, g3, g4⟩ := H1.out
      obtain ⟨bx, hbx⟩ : ∃ bx, Wq.heap.size = bx := ⟨_, rfl⟩
      rw [hbx] at g4 ⊢
      exact HKK.out bx _ g1 ⟨g3, g2⟩ g4
    case body =>
      rintro l m hi k bx W ⟨hz, hj⟩ hlo hlh hhi hpx hk
      (try dsimp only)
      rcases HA.out.1 k hk with ⟨hE, hcase⟩ | ⟨hE, h2, h3, h4, h5, h6⟩
      · rcases hcase with her | ⟨rfl, u, hu, q1, q2, q3, q4⟩
        · as_aux_lemma =>
            have e1 : (er == 0) = false := beq_eq_false_iff_ne.2 her
            obtain ⟨P, hP⟩ : ∃ P : Int, (k : Int) + 1 = P := ⟨_, rfl⟩
            have hri : IntKind.i64.wrap ((k : Int) + 1) = P := by have := HOL.out; rw [IntKind.wrap_i64] <;> omega
            have HJ := Lib.hid (show ∀ nq, LeavesQ (safe8 (w2.heap.size + 4)) W0.heap.size m hi W ((W.drewN nq).setCell ⟨w2.heap.size + 3, 0, none⟩ (.int .i64 P)) ∧ ((∀ j, j < k + 1 → eX s j = 0) ∧ KaI w w2.heap.size w1.heap.size (n : Int) (.slice p len c) L Z er ((k + 1 : Nat) : Int) ((W.drewN nq).setCell ⟨w2.heap.size + 3, 0, none⟩ (.int .i64 P))) ∧ LeavesQ (safe8 (w2.heap.size + 4)) W0.heap.size m hi W (((W.drewN nq).setCell ⟨w2.heap.size + 3, 0, none⟩ (.int .i64 P)).setCell ⟨w.heap.size + 1, 0, none⟩ (.bool true)) ∧ KaE w (((W.drewN nq).setCell ⟨w2.heap.size + 3, 0, none⟩ (.int .i64 P)).setCell ⟨w.heap.size + 1, 0, none⟩ (.bool true)) from by
              intro nq
              have hs := (hj.keep (belowN8 W nq)).set (lo := m) (hi := hi) (by have := H0.out.1; omega) HA0.out.2.2.2.2.1 HA0.out.2.2.2.2.2 P
              have hr := hs.2.ret (lo := m) (hi := hi) (by have := H0.out.1; omega) HA0.out.2.2.2.2.1 HA0.out.2.2.2.2.2
              have hk1 : ((k + 1 : Nat) : Int) = P := by omega
              rw [hk1, H0.out.1]
              refine ⟨hs.1.drew, ⟨fun j hj2 => ?_, hs.2⟩, hs.1.drew.trans hr.1, hr.2⟩
              by_cases e : j = k
              · rw [e]; exact hE
              · exact hz j (by omega))
            obtain ⟨x0, x1, x2, x3, _, _, _, _⟩ := cells8 hpx
            have b0 := (cell_one8 hj.cs).1
            obtain ⟨b1, f1⟩ := cell_one8 hj.cr
            have b2 := (cell_one8 hj.cl).1
            have b4 := (cell_one8 hj.ce).1
            obtain ⟨b5, f5⟩ := cell_one8 hj.cn
            rw [hE]
            clear hj hz hlo hlh hhi hpx hk hE her hP
            gi_wp2_with fail
            refine region_round_quiet8 (by kernel_rfl) (by kernel_rfl) (by kernel_rfl) ?_
            repeat (gi_big_quiet_step (fail))
            refine wpQuietIn_nil ?_
            intro _ hw'
            obtain ⟨nq, hw''⟩ := hw'
            subst hw''
            have e0 := (cell_one8 (HJ.out nq).2.1.2.cs).1
            obtain ⟨e1', g1'⟩ := cell_one8 (HJ.out nq).2.1.2.cr
            by_cases hst : (n : Int) ≤ P
            · have d3 : decide (P ≥ (n : Int)) = true := decide_eq_true hst
              gi_wp2
              exact ⟨(HJ.out nq).2.2.1, rfl, (HJ.out nq).2.2.2⟩
            · have d3 : decide (P ≥ (n : Int)) = false := decide_eq_false hst
              gi_wp2
              exact ⟨(HJ.out nq).1, (HJ.out nq).2.1⟩
        · as_aux_lemma =>
            have hku := (List.getElem?_eq_some_iff.1 hu).1
            rw [HLEN.out] at hku
            have hkz : (k : Int) < (len : Int) := by omega
            have hk0 : (0 : Int) ≤ (k : Int) := by omega
            have hkd : decide ((k : Int) ≥ (len : Int)) = false := decide_eq_false (by omega)
            have hkd2 : decide (len ≤ k) = false := decide_eq_false (by omega)
            obtain ⟨P, hP⟩ : ∃ P : Int, (k : Int) + 1 = P := ⟨_, rfl⟩
            have hri : IntKind.i64.wrap ((k : Int) + 1) = P := by have := HOL.out; rw [IntKind.wrap_i64] <;> omega
            have HJ := Lib.hid (show ∀ nq, LeavesQ (safe8 (w2.heap.size + 4)) W0.heap.size m hi W ((W.drewN nq).setCell ⟨w2.heap.size + 3, 0, none⟩ (.int .i64 P)) ∧ ((∀ j, j < k + 1 → eX s j = 0) ∧ KaI w w2.heap.size w1.heap.size (n : Int) (.slice p len c) L Z 0 ((k + 1 : Nat) : Int) ((W.drewN nq).setCell ⟨w2.heap.size + 3, 0, none⟩ (.int .i64 P))) ∧ LeavesQ (safe8 (w2.heap.size + 4)) W0.heap.size m hi W (((W.drewN nq).setCell ⟨w2.heap.size + 3, 0, none⟩ (.int .i64 P)).setCell ⟨w.heap.size + 1, 0, none⟩ (.bool true)) ∧ KaE w (((W.drewN nq).setCell ⟨w2.heap.size + 3, 0, none⟩ (.int .i64 P)).setCell ⟨w.heap.size + 1, 0, none⟩ (.bool true)) from by
              intro nq
              have hs := (hj.keep (belowN8 W nq)).set (lo := m) (hi := hi) (by have := H0.out.1; omega) HA0.out.2.2.2.2.1 HA0.out.2.2.2.2.2 P
              have hr := hs.2.ret (lo := m) (hi := hi) (by have := H0.out.1; omega) HA0.out.2.2.2.2.1 HA0.out.2.2.2.2.2
              have hk1 : ((k + 1 : Nat) : Int) = P := by omega
              rw [hk1, H0.out.1]
              refine ⟨hs.1.drew, ⟨fun j hj2 => ?_, hs.2⟩, hs.1.drew.trans hr.1, hr.2⟩
              by_cases e : j = k
              · rw [e]; exact hE
              · exact hz j (by omega))
            obtain ⟨x0, x1, x2, x3, _, _, _, _⟩ := cells8 hpx
            have b0 := (cell_one8 hj.cs).1
            obtain ⟨b1, f1⟩ := cell_one8 hj.cr
            have b2 := (cell_one8 hj.cl).1
            have b4 := (cell_one8 hj.ce).1
            obtain ⟨b5, f5⟩ := cell_one8 hj.cn
            obtain ⟨p2, c2, hv, hflat⟩ := rowW_form hj.row
            obtain ⟨rfl, hv2, hv3⟩ : p = p2 ∧ len = L.length ∧ c = c2 := by simpa using hv
            clear hv2 hv3
            obtain ⟨g, off, rfl, a0, a1, a2, a3⟩ := hflat.in hu
            obtain ⟨T, hT⟩ : ∃ T : ByteArray, (⟨u.s.toArray⟩ : ByteArray) = T := ⟨_, rfl⟩
            obtain ⟨X0, hX0⟩ : ∃ X : Int, (u.kind : Int) = X := ⟨_, rfl⟩
            obtain ⟨X2, hX2⟩ : ∃ X : Int, (u.n : Int) = X := ⟨_, rfl⟩
            obtain ⟨X3, hX3⟩ : ∃ X : Int, (u.p : Int) = X := ⟨_, rfl⟩
            rw [hX0] at a0 q1
            rw [hT] at a1 q2
            rw [hX2] at a2 q3
            rw [hX3] at a3 q4
            rw [q1] at x0
            rw [q2] at x1
            rw [q3] at x2
            rw [q4] at x3
            rw [hE]
            clear hj hz hlo hlh hhi hpx hk hE hP hv hflat hu hku hT hX0 hX2 hX3 q1 q2 q3 q4
            gi_wp2_with fail
            refine region_round_quiet8 (by kernel_rfl) (by kernel_rfl) (by kernel_rfl) ?_
            repeat (gi_big_quiet_step (fail))
            refine wpQuietIn_nil ?_
            intro _ hw'
            obtain ⟨nq, hw''⟩ := hw'
            subst hw''
            have e0 := (cell_one8 (HJ.out nq).2.1.2.cs).1
            obtain ⟨e1', g1'⟩ := cell_one8 (HJ.out nq).2.1.2.cr
            by_cases hst : (n : Int) ≤ P
            · have d3 : decide (P ≥ (n : Int)) = true := decide_eq_true hst
              gi_wp2
              exact ⟨(HJ.out nq).2.2.1, rfl, (HJ.out nq).2.2.2⟩
            · have d3 : decide (P ≥ (n : Int)) = false := decide_eq_false hst
              gi_wp2
              exact ⟨(HJ.out nq).1, (HJ.out nq).2.1⟩
      · have hne : (eX s k != 0) = true := by simpa using hE
        rw [h2] at hne
        rw [h2]
        obtain ⟨x0, x1, x2, x3, _, _, _, _⟩ := cells8 hpx
        rw [h3] at x0
        rw [h4] at x1
        rw [h5] at x2
        rw [h6] at x3
        obtain ⟨b1, f1⟩ := cell_one8 hj.cr
        have b3 := (cell_one8 hj.ca).1
        have b4 := (cell_one8 hj.ce).1
        have hee : (er == er) = true := beq_self_eq_true _
        have HJ := Lib.hid (hj.ret (lo := m) (hi := hi) (by have := H0.out.1; omega) HA0.out.2.2.2.2.1 HA0.out.2.2.2.2.2)
        clear hj hz hlo hlh hhi hpx hk hE h2 h3 h4 h5 h6
        gi_wp2
        exact ⟨by rw [H0.out.1]; exact HJ.out.1, rfl, HJ.out.2⟩
    case done =>
      rintro D W hD ⟨hz, hj⟩ hdef
      obtain ⟨rfl, hNl⟩ := HA.out.2 hz
      obtain ⟨b1, f1⟩ := cell_one8 hj.cr
      have b2 := (cell_one8 hj.cl).1
      have b4 := (cell_one8 hj.ce).1
      have b5 := (cell_one8 hj.cn).1
      subst hNl
      have hee : ((N : Int) == (N : Int)) = true := beq_self_eq_true _
      have hr := hj.ret (lo := w2.heap.size + 5) (hi := 0) (Nat.le_refl _) HA0.out.2.2.2.2.1 HA0.out.2.2.2.2.2
      have HJ := Lib.hid (And.intro hr.2 (And.intro hdef (show w2.heap.size + 5 ≤ D ∧ w.heap.size + 2 ≤ w2.heap.size from by have := H0.out.1; have := hj.lo; have := hj.hi; omega)))
      clear hj hz hD hdef hr
      gi_wp2
      obtain ⟨hX1, hdef, hD1, hD2⟩ := HJ.out
      refine ⟨by simp, .inl ⟨_, _, rfl, run_takeDeferred (by rw [heap_setCell_other _ _ _ _ (by show D ≠ w.heap.size + 1; omega)]; exact hdef), ?_⟩⟩
      have h0 : ((W.setCell ⟨w.heap.size + 1, 0, none⟩ (.bool true)).putObj D (.deferred none)).heap[w.heap.size + 1]? = some (objB true) := (World.putObj_heap_other (by omega)).trans HJ.out.1.cr
      have h : ((W.setCell ⟨w.heap.size + 1, 0, none⟩ (.bool true)).putObj D (.deferred none)).cell? ⟨w.heap.size + 1, 0, none⟩ = some (.bool true) := by unfold World.cell?; rw [h0]; rfl
      have hbe := HJ.out.1.below
      refine ⟨.bool true, ?_, rfl, hbe.os, hbe.tape, hbe.output, by simpa using hbe.size, fun j hj => (World.putObj_heap_other (by omega)).trans (hbe.block j hj)⟩
      simp [results, Tryd.results5, go_sem, h]
    case stop =>
      rintro D c k W hD hk ⟨rfl, h⟩ hdef
      have HJ := Lib.hid (And.intro h (And.intro hdef (show w.heap.size + 2 ≤ D from by have := H0.out.1; have := HK0.out.lo; have := HK0.out.hi; omega)))
      clear h hdef hD hk
      gi_wp2
      obtain ⟨hX1, hdef, hD⟩ := HJ.out
      refine ⟨by simp, .inl ⟨_, _, rfl, run_takeDeferred hdef, ?_⟩⟩
      have h0 : (W.putObj D (.deferred none)).heap[w.heap.size + 1]? = some (objB true) := (World.putObj_heap_other (by omega)).trans HJ.out.1.cr
      have h : (W.putObj D (.deferred none)).cell? ⟨w.heap.size + 1, 0, none⟩ = some (.bool true) := by unfold World.cell?; rw [h0]; rfl
      have hbe := HJ.out.1.below
      refine ⟨.bool true, ?_, rfl, hbe.os, hbe.tape, hbe.output, by simpa using hbe.size, fun j hj => (World.putObj_heap_other (by omega)).trans (hbe.block j hj)⟩
      simp [results, Tryd.results5, go_sem, h]
  · have d1 : decide ((s.size : Int) > 30000) = true := decide_eq_true (by omega)
    have d2 : decide (30000 < s.size) = true := decide_eq_true (by omega)
    gi_wp2_with fail
    rw [HWA.out]
    refine ⟨trivial, rfl, ?_⟩
    refine callsIn_wide.2 ((awake8_c _ (HE.out _ HA0.out.1)).mono ?_)
    rintro e w1 ⟨rfl, hb1⟩
    have HB1 := Lib.hid (And.intro hb1 (belowT8 HA0.out.1 hb1))
    clear hb1
    gi_wp2_with fail
    refine ⟨trivial, rfl, ?_⟩
    refine callsIn_wide.2 ((awake8_c _ (HE.out _ HB1.out.2)).mono ?_)
    rintro e w2 ⟨rfl, hb2⟩
    have hbt := belowT8 HB1.out.1 hb2
    have hr3 := (hbt.block _ (Array.getElem?_eq_some_iff.1 HA0.out.2.2.2.1).1).trans HA0.out.2.2.2.1
    obtain ⟨r0, f0⟩ := cell_one8 hr3
    have HB3 := Lib.hid (And.intro (belowT8 HB1.out.2 hb2) (heap_setCell_same _ (w.heap.size + 1) 0 _ _ (.bool true) hr3))
    clear hb2 hbt hr3
    gi_wp2
    refine ⟨.bool true, ?_, rfl, HB3.out.1.setCell (by show w.heap.size ≤ w.heap.size + 1; omega) _⟩
    have h : (w2.setCell ⟨w.heap.size + 1, 0, none⟩ (.bool true)).cell? ⟨w.heap.size + 1, 0, none⟩ = some (.bool true) := by unfold World.cell?; rw [HB3.out.2]; rfl
    simp [results, Tryd.results5, go_sem, h]
end Go.Proofs.YtikpbfghdiomgaaDoor
