/-
  Several texts in one: StMath StRef StpA StCmp StpB.
-/
import Derived.Test.YtibphmddepfgjaaMD
import Derived.Test.YtibphmddepfgjaaME
import Derived.RangeFuncFrom

/-
  Mathematics of the order of times (as SpanMath3, without what it says of Min), and of stamps. No condition but those that each theorem states.
-/
namespace Go.Proofs.Ytibphmddepfgjaa
open Go.RowKit

theorem q_le {an ad bn bd : Int} (pa : plainR an ad) (pb : plainR bn bd) : M.qOf bn.toNat bd.toNat ≤ M.qOf an.toNat ad.toNat ↔ bn * ad ≤ an * bd := by
  obtain ⟨e1, e2, e3, e4⟩ := plain_nat pa
  obtain ⟨f1, f2, f3, f4⟩ := plain_nat pb
  obtain ⟨g1, g2⟩ := M.num_den1 an.toNat ad.toNat (Nat.ne_of_gt e4) e3
  obtain ⟨g3, g4⟩ := M.num_den1 bn.toNat bd.toNat (Nat.ne_of_gt f4) f3
  rw [Rat.le_iff, g1, g2, g3, g4, e1, e2, f1, f2]

theorem le_add_left (p q : Rat) (hp : 0 ≤ p) : q ≤ p + q := by
  have := Rat.add_le_add_right (a := 0) (b := p) (c := q)
  rw [Rat.zero_add] at this
  exact this.2 hp

theorem cmp_plain {an ad bn bd : Int} (pa : plainR an ad) (pb : plainR bn bd) : cmpS an ad bn bd = sgn (an * bd) (bn * ad) := by
  unfold cmpS; rw [if_pos ⟨right_plain pa, right_plain pb⟩]
theorem sgn_anti (x y : Int) : sgn x y = - sgn y x := by
  unfold sgn
  (repeat' split) <;> omega
theorem sgn_in (x y : Int) : -1 ≤ sgn x y ∧ sgn x y ≤ 1 := by
  unfold sgn
  (repeat' split) <;> omega
theorem cmp_anti (an ad bn bd : Int) : cmpS an ad bn bd = - cmpS bn bd an ad := by
  unfold cmpS
  by_cases h : rightB an ad = true ∧ rightB bn bd = true
  · rw [if_pos h, if_pos (show rightB bn bd = true ∧ rightB an ad = true from ⟨h.2, h.1⟩)]
    exact sgn_anti _ _
  · rw [if_neg h, if_neg (show ¬ (rightB bn bd = true ∧ rightB an ad = true) from fun k => h ⟨k.2, k.1⟩)]
    rfl
theorem cmp_in (an ad bn bd : Int) : -1 ≤ cmpS an ad bn bd ∧ cmpS an ad bn bd ≤ 1 := by
  unfold cmpS
  split
  · exact sgn_in _ _
  · omega
theorem cmp_self (an ad : Int) : cmpS an ad an ad = 0 := by
  unfold cmpS
  split
  · exact sgn_eq rfl
  · rfl
theorem cmp_q {an ad bn bd : Int} (pa : plainR an ad) (pb : plainR bn bd) :
    cmpS an ad bn bd = if M.qOf an.toNat ad.toNat < M.qOf bn.toNat bd.toNat then -1 else if M.qOf bn.toNat bd.toNat < M.qOf an.toNat ad.toNat then 1 else 0 := by
  rw [cmp_plain pa pb]
  have h1 := q_le pa pb
  have h2 := q_le pb pa
  rcases Int.lt_trichotomy (an * bd) (bn * ad) with k | k | k
  · rw [sgn_lt k, if_pos]
    rw [← Rat.not_le, h1]
    omega
  · rw [sgn_eq k, if_neg, if_neg]
    · rw [Rat.not_lt, h2]; omega
    · rw [Rat.not_lt, h1]; omega
  · rw [sgn_gt k, if_neg, if_pos]
    · rw [← Rat.not_le, h2]; omega
    · rw [Rat.not_lt, h1]; omega
theorem q_inj {an ad bn bd : Int} (pa : plainR an ad) (pb : plainR bn bd) (h : M.qOf an.toNat ad.toNat = M.qOf bn.toNat bd.toNat) : an = bn ∧ ad = bd := by
  obtain ⟨e1, e2, e3, e4⟩ := plain_nat pa
  obtain ⟨f1, f2, f3, f4⟩ := plain_nat pb
  obtain ⟨g1, g2⟩ := M.num_den1 an.toNat ad.toNat (Nat.ne_of_gt e4) e3
  obtain ⟨g3, g4⟩ := M.num_den1 bn.toNat bd.toNat (Nat.ne_of_gt f4) f3
  rw [h] at g1 g2
  have h1 : (an.toNat : Int) = bn.toNat := g1.symm.trans g3
  have h2 : ad.toNat = bd.toNat := g2.symm.trans g4
  omega
theorem cmp_np {bn bd : Int} (pb : plainR bn bd) : cmpS 1 0 bn bd = 1 := by
  unfold cmpS
  rw [if_pos ⟨right_never, right_plain pb⟩]
  exact sgn_gt (by have := pb.1; omega)
theorem cmp_pn {an ad : Int} (pa : plainR an ad) : cmpS an ad 1 0 = -1 := by rw [cmp_anti, cmp_np pa]

theorem cmp_zero {an ad bn bd : Int} (ra : rightB an ad = true) (rb : rightB bn bd = true) (h : cmpS an ad bn bd = 0) : an = bn ∧ ad = bd := by
  rcases right_cases ra with ⟨rfl, rfl⟩ | pa
  · rcases right_cases rb with ⟨rfl, rfl⟩ | pb
    · exact ⟨rfl, rfl⟩
    · rw [cmp_np pb] at h; omega
  · rcases right_cases rb with ⟨rfl, rfl⟩ | pb
    · rw [cmp_pn pa] at h; omega
    · refine q_inj pa pb ?_
      rw [cmp_q pa pb] at h
      by_cases k1 : M.qOf an.toNat ad.toNat < M.qOf bn.toNat bd.toNat
      · rw [if_pos k1] at h; omega
      · rw [if_neg k1] at h
        by_cases k2 : M.qOf bn.toNat bd.toNat < M.qOf an.toNat ad.toNat
        · rw [if_pos k2] at h; omega
        · exact Rat.le_antisymm (Rat.not_lt.1 k2) (Rat.not_lt.1 k1)

theorem cmp_le {an ad bn bd : Int} (pa : plainR an ad) (pb : plainR bn bd) : cmpS an ad bn bd ≤ 0 ↔ M.qOf an.toNat ad.toNat ≤ M.qOf bn.toNat bd.toNat := by
  rw [cmp_q pa pb]
  by_cases k1 : M.qOf bn.toNat bd.toNat < M.qOf an.toNat ad.toNat
  · have k2 : ¬ M.qOf an.toNat ad.toNat < M.qOf bn.toNat bd.toNat := by
      rw [Rat.not_lt]
      exact (Rat.lt_iff_le_and_not_ge.1 k1).1
    rw [if_neg k2, if_pos k1]
    have := Rat.not_le.2 k1
    constructor
    · intro h; omega
    · intro h; exact absurd h this
  · have h := Rat.not_lt.1 k1
    rw [if_neg k1]
    constructor
    · intro _; exact h
    · intro _; split <;> omega

theorem cmp_trans {an ad bn bd cn cd : Int} (ra : rightB an ad = true) (rb : rightB bn bd = true) (rc : rightB cn cd = true) (h1 : cmpS an ad bn bd ≤ 0) (h2 : cmpS bn bd cn cd ≤ 0) : cmpS an ad cn cd ≤ 0 := by
  rcases right_cases rc with ⟨rfl, rfl⟩ | pc
  · rcases right_cases ra with ⟨rfl, rfl⟩ | pa
    · rw [cmp_self]; omega
    · rw [cmp_pn pa]; omega
  · rcases right_cases rb with ⟨rfl, rfl⟩ | pb
    · rw [cmp_np pc] at h2; omega
    · rcases right_cases ra with ⟨rfl, rfl⟩ | pa
      · rw [cmp_np pb] at h1; omega
      · rw [cmp_le pa pc]
        exact Rat.le_trans ((cmp_le pa pb).1 h1) ((cmp_le pb pc).1 h2)
theorem cmp_right {an ad bn bd : Int} (h : ¬ cmpS an ad bn bd = 0) : rightB an ad = true ∧ rightB bn bd = true := by
  unfold cmpS at h
  by_cases k : rightB an ad = true ∧ rightB bn bd = true
  · exact k
  · rw [if_neg k] at h; exact absurd rfl h

/-- A right stamp. -/
def sRight (n d c : Int) : Bool := rightB n d && (decide (0 ≤ c ∧ c ≤ 1099511627776) && (!decide (isNever n d) || decide (c = 0)))
theorem sRight_iff {n d c : Int} : sRight n d c = true ↔ rightB n d = true ∧ (0 ≤ c ∧ c ≤ 1099511627776) ∧ (isNever n d → c = 0) := by
  unfold sRight
  simp only [Bool.and_eq_true, Bool.or_eq_true, Bool.not_eq_true', decide_eq_true_eq, decide_eq_false_iff_not]
  constructor
  · rintro ⟨h1, h2, h3⟩
    exact ⟨h1, h2, fun h => h3.resolve_left fun h4 => h4 h⟩
  · rintro ⟨h1, h2, h3⟩
    refine ⟨h1, h2, ?_⟩
    by_cases h : isNever n d
    · exact .inr (h3 h)
    · exact .inl h
/-- How stamps stand to each other. -/
def sCmp (an ad ac bn bd bc : Int) : Int := if sRight an ad ac = true ∧ sRight bn bd bc = true then (if cmpS an ad bn bd = 0 then sgn ac bc else cmpS an ad bn bd) else 0
/-- What is so long behind a stamp: the stamp, and the error's number. -/
def sAfter (n d c tn td : Int) : (Int × Int × Int) × Int :=
  if sRight n d c = true ∧ ¬ isNever n d ∧ rightB tn td = true then
    if isNever tn td then ((1, 0, 0), 0) else if tn = 0 then (if c = 1099511627776 then ((0, 0, 0), 2) else ((n, d, c + 1), 0)) else (((addS n d tn td).1, (addS n d tn td).2.1, 0), (addS n d tn td).2.2)
  else ((0, 0, 0), 1)
theorem sCmp_no {an ad ac bn bd bc : Int} (h : ¬ (sRight an ad ac = true ∧ sRight bn bd bc = true)) : sCmp an ad ac bn bd bc = 0 := by unfold sCmp; rw [if_neg h]
theorem sCmp_yes {an ad ac bn bd bc : Int} (h1 : sRight an ad ac = true) (h2 : sRight bn bd bc = true) : sCmp an ad ac bn bd bc = if cmpS an ad bn bd = 0 then sgn ac bc else cmpS an ad bn bd := by unfold sCmp; rw [if_pos ⟨h1, h2⟩]
theorem sCmp_anti (an ad ac bn bd bc : Int) : sCmp an ad ac bn bd bc = - sCmp bn bd bc an ad ac := by
  by_cases h : sRight an ad ac = true ∧ sRight bn bd bc = true
  · rw [sCmp_yes h.1 h.2, sCmp_yes h.2 h.1, cmp_anti bn bd an ad]
    by_cases h0 : cmpS an ad bn bd = 0
    · rw [if_pos h0, if_pos (by omega), ← sgn_anti]
    · rw [if_neg h0, if_neg (by omega)]
      omega
  · rw [sCmp_no h, sCmp_no fun h2 => h ⟨h2.2, h2.1⟩]
    rfl
theorem sCmp_in (an ad ac bn bd bc : Int) : -1 ≤ sCmp an ad ac bn bd bc ∧ sCmp an ad ac bn bd bc ≤ 1 := by
  unfold sCmp
  split
  · split
    · exact sgn_in _ _
    · exact cmp_in _ _ _ _
  · omega
theorem sgn_zero {x y : Int} : sgn x y = 0 ↔ x = y := by unfold sgn; (repeat' split) <;> omega
theorem sgn_le {x y : Int} : sgn x y ≤ 0 ↔ x ≤ y := by unfold sgn; (repeat' split) <;> omega
theorem sCmp_zero {an ad ac bn bd bc : Int} (ra : sRight an ad ac = true) (rb : sRight bn bd bc = true) : sCmp an ad ac bn bd bc = 0 ↔ an = bn ∧ ad = bd ∧ ac = bc := by
  rw [sCmp_yes ra rb]
  constructor
  · intro h
    by_cases h0 : cmpS an ad bn bd = 0
    · rw [if_pos h0] at h
      obtain ⟨e1, e2⟩ := cmp_zero (sRight_iff.1 ra).1 (sRight_iff.1 rb).1 h0
      exact ⟨e1, e2, sgn_zero.1 h⟩
    · rw [if_neg h0] at h
      exact absurd h h0
  · rintro ⟨rfl, rfl, rfl⟩
    rw [if_pos (cmp_self _ _)]
    exact sgn_zero.2 rfl
theorem sCmp_trans {an ad ac bn bd bc cn cd cc : Int} (ra : sRight an ad ac = true) (rb : sRight bn bd bc = true) (rc : sRight cn cd cc = true) (h1 : sCmp an ad ac bn bd bc ≤ 0) (h2 : sCmp bn bd bc cn cd cc ≤ 0) : sCmp an ad ac cn cd cc ≤ 0 := by
  rw [sCmp_yes ra rb] at h1
  rw [sCmp_yes rb rc] at h2
  rw [sCmp_yes ra rc]
  have r1 := (sRight_iff.1 ra).1
  have r2 := (sRight_iff.1 rb).1
  have r3 := (sRight_iff.1 rc).1
  have k1 : cmpS an ad bn bd ≤ 0 := by split at h1 <;> omega
  have k2 : cmpS bn bd cn cd ≤ 0 := by split at h2 <;> omega
  have k3 := cmp_trans r1 r2 r3 k1 k2
  by_cases h0 : cmpS an ad cn cd = 0
  · obtain ⟨rfl, rfl⟩ := cmp_zero r1 r3 h0
    have k4 : cmpS an ad bn bd = 0 := by
      have := cmp_anti an ad bn bd
      omega
    obtain ⟨rfl, rfl⟩ := cmp_zero r1 r2 k4
    rw [if_pos h0] at h1 h2 ⊢
    rw [sgn_le] at h1 h2 ⊢
    omega
  · rw [if_neg h0]
    exact k3
/-- What is behind a stamp is right, and greater. -/
theorem sAfter_ok {n d c tn td : Int} {s : Int × Int × Int} (h : sAfter n d c tn td = (s, 0)) : sRight n d c = true ∧ sRight s.1 s.2.1 s.2.2 = true ∧ sCmp n d c s.1 s.2.1 s.2.2 = -1 := by
  unfold sAfter at h
  split at h
  · next hc =>
    obtain ⟨hr, hv, ht⟩ := hc
    have hr1 := (sRight_iff.1 hr).1
    have hr2 := (sRight_iff.1 hr).2.1
    have hp : plainR n d := (right_cases hr1).resolve_left fun h => hv h
    refine ⟨hr, ?_⟩
    split at h
    · next htn =>
      obtain rfl : s = (1, 0, 0) := (Prod.mk.inj h).1.symm
      have hs : sRight 1 0 0 = true := by decide
      refine ⟨hs, ?_⟩
      dsimp only
      rw [sCmp_yes hr hs, cmp_pn hp, if_neg (by decide)]
    · next htn =>
      split at h
      · split at h
        · exact absurd (Prod.mk.inj h).2 (by decide)
        · next hc =>
          obtain rfl : s = (n, d, c + 1) := (Prod.mk.inj h).1.symm
          have hs : sRight n d (c + 1) = true := sRight_iff.2 ⟨hr1, ⟨by omega, by omega⟩, fun h => absurd h hv⟩
          refine ⟨hs, ?_⟩
          dsimp only
          rw [sCmp_yes hr hs, cmp_self, if_pos rfl]
          exact sgn_lt (by omega)
      · next h0 =>
        have hpt : plainR tn td := (right_cases ht).resolve_left fun h => htn h
        obtain ⟨e1, e2⟩ := Prod.mk.inj h
        obtain ⟨⟨x, y, z⟩, ha⟩ : ∃ t, addS n d tn td = t := ⟨_, rfl⟩
        rw [ha] at e1 e2
        dsimp only at e1 e2
        subst e1 e2
        rcases add_ok ha with ⟨_, _, h | h⟩ | ⟨pp, _, _, hq⟩
        · exact absurd h hv
        · exact absurd h htn
        · have hs : sRight x y 0 = true := sRight_iff.2 ⟨right_plain pp, ⟨by omega, by omega⟩, fun _ => rfl⟩
          refine ⟨hs, ?_⟩
          dsimp only
          have hle : ¬ cmpS x y n d ≤ 0 := by
            rw [cmp_le pp hp, hq]
            have hpos : 0 < M.qOf tn.toNat td.toNat := by
              have h5 := hpt
              unfold plainR at h5
              have hg : Nat.gcd tn.toNat td.toNat = 1 := by
                have := h5.2.2
                unfold Int.gcd at this
                rwa [show tn.natAbs = tn.toNat from by omega, show td.natAbs = td.toNat from by omega] at this
              have hnum := (M.num_den1 tn.toNat td.toNat (by omega) hg).1
              refine Rat.not_le.1 fun h => ?_
              have h0 := Rat.le_antisymm h (q_nonneg tn.toNat td.toNat)
              rw [h0] at hnum
              have : (tn.toNat : Int) = 0 := hnum.symm.trans rfl
              omega
            intro h7
            have h8 : M.qOf n.toNat d.toNat + M.qOf tn.toNat td.toNat ≤ M.qOf n.toNat d.toNat + 0 := by rw [Rat.add_zero]; exact h7
            have h9 := Rat.add_le_add_left.1 h8
            exact absurd hpos (Rat.not_lt.2 h9)
          have h1 := cmp_anti n d x y
          have h2 := cmp_in x y n d
          rw [sCmp_yes hr hs, if_neg (by omega)]
          omega
  · exact absurd (Prod.mk.inj h).2 (by decide)
theorem add_err {an ad bn bd : Int} (h : (addS an ad bn bd).2.2 ≠ 0) : (addS an ad bn bd).1 = 0 ∧ (addS an ad bn bd).2.1 = 0 := by
  by_cases hr : rightB an ad = true ∧ rightB bn bd = true
  · rcases right_cases hr.1 with ⟨rfl, rfl⟩ | pa
    · rw [add_never1 hr.2] at h
      exact absurd rfl h
    · rcases right_cases hr.2 with ⟨rfl, rfl⟩ | pb
      · rw [add_never2 hr.1] at h
        exact absurd rfl h
      · rw [add_plain pa pb] at h ⊢
        rw [ofRat_large rfl h]
        exact ⟨rfl, rfl⟩
  · rw [add_not hr]
    exact ⟨rfl, rfl⟩
theorem sAfter_err {n d c tn td : Int} (h : (sAfter n d c tn td).2 ≠ 0) : (sAfter n d c tn td).1 = (0, 0, 0) := by
  unfold sAfter at h ⊢
  by_cases h1 : sRight n d c = true ∧ ¬ isNever n d ∧ rightB tn td = true
  · rw [if_pos h1] at h ⊢
    by_cases h2 : isNever tn td
    · rw [if_pos h2] at h
      exact absurd rfl h
    · rw [if_neg h2] at h ⊢
      by_cases h3 : tn = 0
      · rw [if_pos h3] at h ⊢
        by_cases h4 : c = 1099511627776
        · rw [if_pos h4]
        · rw [if_neg h4] at h
          exact absurd rfl h
      · rw [if_neg h3] at h ⊢
        have := add_err h
        dsimp only
        rw [this.1, this.2]
  · rw [if_neg h1]
theorem sAfter_in {n d c tn td : Int} (hn : In64 n ∧ In64 d ∧ In64 c) : In64 (sAfter n d c tn td).1.1 ∧ In64 (sAfter n d c tn td).1.2.1 ∧ In64 (sAfter n d c tn td).1.2.2 := by
  unfold sAfter
  split
  · next hc =>
    have hr := (sRight_iff.1 hc.1).2.1
    split
    · exact ⟨by decide, by decide, by decide⟩
    · split
      · split
        · exact ⟨by decide, by decide, by decide⟩
        · exact ⟨hn.1, hn.2.1, by dsimp only; omega⟩
      · have := add_in n d tn td
        exact ⟨this.1, this.2, by dsimp only; omega⟩
  · exact ⟨by decide, by decide, by decide⟩
end Go.Proofs.Ytibphmddepfgjaa

/-
  The contracts of the given package gavotteref06's Right, Never, Cmp over this seat's translation. Conditions: the numbers are ints.
-/
namespace Go.Proofs.Ytibphmddepfgjaa
open Go.RowKit

/-- A stamp, as a value. -/
abbrev stV (n d c : Int) : Value := .agg #[.int .i64 n, .int .i64 d, .int .i64 c]
abbrev In3 (n d c : Int) : Prop := In64 n ∧ In64 d ∧ In64 c
theorem rnever_c (n d : Int) (w : World) : Calls Try.prog 34 #[.agg #[.int .i64 n, .int .i64 d]] w fun e w' => e = .returned (.bool (decide (isNever n d))) ∧ Below w.heap.size w w' := by
  by_cases h : isNever n d
  · rw [decide_eq_true h]
    obtain ⟨rfl, rfl⟩ := h
    exact rnever_yes w
  · rw [decide_eq_false h]
    exact rnever_no n d h w
theorem cells3 {W W' : World} {b : Nat} {u v x : Value} {t : TypeId} (h : W.heap[b]? = some (.cells #[u, v, x] t (0, 0))) (hb : Below W.heap.size W W') : W'.cell? ⟨b, 0, none⟩ = some u ∧ W'.cell? ⟨b, 1, none⟩ = some v ∧ W'.cell? ⟨b, 2, none⟩ = some x := by
  have h := (hb.block b (Array.getElem?_eq_some_iff.1 h).1).trans h
  refine ⟨?_, ?_, ?_⟩ <;> (unfold World.cell?; rw [h]; rfl)

set_option maxHeartbeats 4000000 in
set_option maxRecDepth 100000 in
theorem r6right_c (n d c : Int) (hn : In3 n d c) (w : World) :
    Calls Try.prog 17 #[stV n d c] w fun e w' => e = .returned (.bool (sRight n d c)) ∧ Below w.heap.size w w' := by
  have K1 := Lib.hid (rright_c n d hn.1 hn.2.1)
  have K2 := Lib.hid (rnever_c n d)
  have hnew := World.alloc_heap_new w (.cells #[.int .i64 n, .int .i64 d, .int .i64 c] 26)
  have hb0 : Below w.heap.size w (w.alloc (.cells #[.int .i64 n, .int .i64 d, .int .i64 c] 26)) := (Below.refl _ w).alloc (Nat.le_refl _) _
  have HN := Lib.hid (And.intro hnew hb0)
  clear hnew hb0 hn
  have hfin : ∀ {b : Bool} {w' : World}, b = sRight n d c → Below w.heap.size w w' → (Ending.returned (.bool b) = .returned (.bool (sRight n d c)) ∧ Below w.heap.size w w') := fun h hb => ⟨by rw [h], hb⟩
  have hsr : sRight n d c = (rightB n d && (decide (0 ≤ c ∧ c ≤ 1099511627776) && (!decide (isNever n d) || decide (c = 0)))) := rfl
  have HF := Lib.hid (And.intro @hfin hsr)
  clear hfin hsr
  obtain ⟨r1, hr1⟩ : ∃ r, rightB n d = r := ⟨_, rfl⟩
  obtain ⟨r2, hr2⟩ : ∃ r, decide (isNever n d) = r := ⟨_, rfl⟩
  rw [hr1] at K1
  rw [hr2] at K2
  have HR := Lib.hid (And.intro hr1 hr2)
  clear hr1 hr2
  cases r1
  · go_enter Try.func17, Try.ntmps17
    go_wp2_with fail
    refine (K1.out _).mono ?_
    rintro e w1 ⟨rfl, hb1⟩
    have HB := Lib.hid (belowT HN.out.2 hb1)
    clear hb1
    go_wp2
    go_ret
    exact HF.out.1 (by rw [HF.out.2, HR.out.1]; rfl) HB.out
  · by_cases h0 : c < 0
    · have hd : decide (c < 0) = true := decide_eq_true h0
      have HC := Lib.hid (show decide (0 ≤ c ∧ c ≤ 1099511627776) = false from decide_eq_false (by omega))
      go_enter Try.func17, Try.ntmps17
      go_wp2_with fail
      refine (K1.out _).mono ?_
      rintro e w1 ⟨rfl, hb1⟩
      obtain ⟨c0, c1, c2⟩ := cells3 HN.out.1 hb1
      have HB := Lib.hid (belowT HN.out.2 hb1)
      clear hb1 h0
      go_wp2
      go_ret
      exact HF.out.1 (by rw [HF.out.2, HR.out.1, HC.out]; rfl) HB.out
    · have hd : decide (c < 0) = false := decide_eq_false h0
      by_cases h1 : c > 1099511627776
      · have hd1 : decide (c > 1099511627776) = true := decide_eq_true h1
        have HC := Lib.hid (show decide (0 ≤ c ∧ c ≤ 1099511627776) = false from decide_eq_false (by omega))
        go_enter Try.func17, Try.ntmps17
        go_wp2_with fail
        refine (K1.out _).mono ?_
        rintro e w1 ⟨rfl, hb1⟩
        obtain ⟨c0, c1, c2⟩ := cells3 HN.out.1 hb1
        have HB := Lib.hid (belowT HN.out.2 hb1)
        clear hb1 h0 h1
        go_wp2
        go_ret
        exact HF.out.1 (by rw [HF.out.2, HR.out.1, HC.out]; rfl) HB.out
      · have hd1 : decide (c > 1099511627776) = false := decide_eq_false h1
        have HC := Lib.hid (show decide (0 ≤ c ∧ c ≤ 1099511627776) = true from decide_eq_true (by omega))
        cases r2
        · go_enter Try.func17, Try.ntmps17
          go_wp2_with fail
          refine (K1.out _).mono ?_
          rintro e w1 ⟨rfl, hb1⟩
          obtain ⟨c0, c1, c2⟩ := cells3 HN.out.1 hb1
          have HB := Lib.hid (belowT HN.out.2 hb1)
          clear hb1 h0 h1
          go_wp2_with fail
          refine (K2.out _).mono ?_
          rintro e w2 ⟨rfl, hb2⟩
          have HB := Lib.hid (belowT HB.out hb2)
          clear hb2
          go_wp2
          go_ret
          exact HF.out.1 (by rw [HF.out.2, HR.out.1, HR.out.2, HC.out]; rfl) HB.out
        · have hdz : decide (c = 0) = (c == 0) := by by_cases h : c = 0 <;> simp [h]
          have HZ := Lib.hid hdz
          clear hdz
          go_enter Try.func17, Try.ntmps17
          go_wp2_with fail
          refine (K1.out _).mono ?_
          rintro e w1 ⟨rfl, hb1⟩
          obtain ⟨c0, c1, c2⟩ := cells3 HN.out.1 hb1
          have HB := Lib.hid (And.intro (belowT HN.out.2 hb1) hb1)
          clear hb1 h0 h1
          go_wp2_with fail
          refine (K2.out _).mono ?_
          rintro e w2 ⟨rfl, hb2⟩
          obtain ⟨c0, c1, c2⟩ := cells3 HN.out.1 (belowT HB.out.2 hb2)
          have HB := Lib.hid (belowT HB.out.1 hb2)
          clear hb2
          go_wp2
          go_ret
          exact HF.out.1 (by rw [HF.out.2, HR.out.1, HR.out.2, HC.out, HZ.out]; simp) HB.out
end Go.Proofs.Ytibphmddepfgjaa

/-
  The contracts of package stamp over this seat's translation, first part: stamps and times held against each other by ==, Never, Right. Conditions: the numbers are ints.
-/
namespace Go.Proofs.Ytibphmddepfgjaa
open Go.RowKit

theorem eqT (an ad bn bd : Int) (w : World) : (binOp BinOp.eql 24 (.agg #[.int .i64 an, .int .i64 ad]) (.agg #[.int .i64 bn, .int .i64 bd])).run Try.prog w = .ok (.bool (decide (an = bn ∧ ad = bd))) w := by
  by_cases h1 : an = bn
  · by_cases h2 : ad = bd
    · subst h1 h2
      go_simp
    · subst h1
      go_simp
  · go_simp
theorem eqP (an ad ac bn bd bc : Int) (w : World) : (binOp BinOp.eql 33 (.agg #[.int .i64 an, .int .i64 ad, .int .i64 ac]) (.agg #[.int .i64 bn, .int .i64 bd, .int .i64 bc])).run Try.prog w = .ok (.bool (decide (an = bn ∧ ad = bd ∧ ac = bc))) w := by
  by_cases h1 : an = bn
  · by_cases h2 : ad = bd
    · by_cases h3 : ac = bc
      · subst h1 h2 h3
        go_simp
      · subst h1 h2
        go_simp
    · subst h1
      go_simp
  · go_simp

set_option maxHeartbeats 1000000 in
theorem pnever_c (w : World) : Calls Try.prog 26 #[] w fun e w' => e = .returned (stV 1 0 0) ∧ Below w.heap.size w w' := by
  go_enter Try.func26, Try.ntmps26
  go_wp2_with fail
  refine (never_c _).mono ?_
  rintro e w1 ⟨rfl, hb⟩
  have hz := (hb.block w.heap.size (by simp)).trans (World.alloc_heap_new w (.cells #[.int .i64 0, .int .i64 0, .int .i64 0] 33))
  obtain ⟨z0, z1, z2⟩ := cells3 hz (Below.refl _ _)
  have f0 := frozen_of_row _ w.heap.size 0 _ _ hz
  have f1 := frozen_of_row _ w.heap.size 1 _ _ hz
  have f2 := frozen_of_row _ w.heap.size 2 _ _ hz
  have HB := Lib.hid (belowT (belowA (Below.refl _ w) _) hb)
  clear hb hz
  go_wp2
  exact bodyPost_ret (v := stV 1 0 0) (by simp [results, Try.results26, go_sem, z0, z1, z2]) rfl ⟨rfl, (by have WB := HB.out; repeat (first | assumption | refine belowS ?_ (by omega) _))⟩

set_option maxHeartbeats 4000000 in
set_option maxRecDepth 100000 in
theorem pright_c (n d c : Int) (hn : In3 n d c) (w : World) :
    Calls Try.prog 40 #[stV n d c] w fun e w' => e = .returned (.bool (sRight n d c)) ∧ Below w.heap.size w w' := by
  have mixed : Try.prog.follows .mixedOrders = true := by kernel_rfl
  have K1 := Lib.hid (right_c n d hn.1 hn.2.1)
  have hnew := World.alloc_heap_new w (.cells #[.int .i64 n, .int .i64 d, .int .i64 c] 33)
  have hb0 : Below w.heap.size w (w.alloc (.cells #[.int .i64 n, .int .i64 d, .int .i64 c] 33)) := (Below.refl _ w).alloc (Nat.le_refl _) _
  have HN := Lib.hid (And.intro hnew hb0)
  clear hnew hb0 hn
  have heq := fun W => eqT n d 1 0 W
  by_cases hv : isNever n d
  · have hv2 := hv
    obtain ⟨rfl, rfl⟩ := hv2
    have hS : sRight 1 0 c = decide (c = 0) := by
      unfold sRight
      rw [decide_eq_true hv, right_never]
      by_cases h : c = 0 <;> simp [h]
    rw [hS]
    have heq2 : ∀ W : World, (binOp BinOp.eql 33 (.agg #[.int .i64 1, .int .i64 0, .int .i64 c]) (.agg #[.int .i64 1, .int .i64 0, .int .i64 0])).run Try.prog W = .ok (.bool (decide (c = 0))) W := fun W => by
      rw [eqP]
      simp
    generalize decide (c = 0) = r at *
    clear hS hv K1
    go_enter Try.func40, Try.ntmps40
    go_wp2_with fail
    go_region_held3 (fun w' => w'.cell? ⟨w.heap.size, 0, none⟩ = some (.int .i64 1) ∧ w'.cell? ⟨w.heap.size, 1, none⟩ = some (.int .i64 0) ∧ w'.cell? ⟨w.heap.size, 2, none⟩ = some (.int .i64 c) ∧ Below w.heap.size w w')
      (first | (go_split_ands; exact ⟨keepc hb (by assumption), keepc hb (by assumption), keepc hb (by assumption), belowT (by assumption) hb⟩) | exact ⟨by go_simp, by go_simp, by go_simp, Below.drew (HN.out.2)⟩ | go_keep)
      (first | (go_at_call 41; refine (never_c _).mono ?_; rintro e w6 ⟨rfl, hb⟩))
    all_goals go_wp2_with fail
    all_goals go_region_held3 (fun w' => w'.cell? ⟨w.heap.size, 0, none⟩ = some (.int .i64 1) ∧ w'.cell? ⟨w.heap.size, 1, none⟩ = some (.int .i64 0) ∧ w'.cell? ⟨w.heap.size, 2, none⟩ = some (.int .i64 c) ∧ Below w.heap.size w w')
      (first | (go_split_ands; exact ⟨keepc hb (by assumption), keepc hb (by assumption), keepc hb (by assumption), belowT (by assumption) hb⟩) | (go_split_ands; exact ⟨by go_simp, by go_simp, by go_simp, Below.drew (by assumption)⟩) | go_keep)
      (first | (go_at_call 26; refine (pnever_c _).mono ?_; rintro e w6 ⟨rfl, hb⟩))
    all_goals go_wp2
    all_goals go_ret
    all_goals exact ⟨rfl, (by repeat (first | with_reducible assumption | with_reducible exact Below.refl _ _ | with_reducible refine belowN ?_ _ | with_reducible refine Below.drew ?_ | with_reducible refine belowA ?_ _ | with_reducible refine belowT ?_ (by assumption)))⟩
  · have hS : sRight n d c = (rightB n d && (decide (c ≥ 0) && decide (c ≤ 1099511627776))) := by
      unfold sRight
      rw [decide_eq_false hv]
      rw [Bool.eq_iff_iff]
      simp
    have heq1 : ∀ W : World, (binOp BinOp.eql 24 (.agg #[.int .i64 n, .int .i64 d]) (.agg #[.int .i64 1, .int .i64 0])).run Try.prog W = .ok (.bool false) W := fun W => by
      rw [eqT, decide_eq_false (show ¬ (n = 1 ∧ d = 0) from hv)]
    rw [hS]
    generalize rightB n d = r at *
    clear hS hv heq
    go_enter Try.func40, Try.ntmps40
    go_wp2_with fail
    go_region_held3 (fun w' => w'.cell? ⟨w.heap.size, 0, none⟩ = some (.int .i64 n) ∧ w'.cell? ⟨w.heap.size, 1, none⟩ = some (.int .i64 d) ∧ w'.cell? ⟨w.heap.size, 2, none⟩ = some (.int .i64 c) ∧ Below w.heap.size w w')
      (first | (go_split_ands; exact ⟨keepc hb (by assumption), keepc hb (by assumption), keepc hb (by assumption), belowT (by assumption) hb⟩) | exact ⟨by go_simp, by go_simp, by go_simp, Below.drew (HN.out.2)⟩ | go_keep)
      (first | (go_at_call 41; refine (never_c _).mono ?_; rintro e w6 ⟨rfl, hb⟩))
    all_goals go_split_ands
    all_goals
      have HB : Below w.heap.size w w6 := by with_reducible assumption
      have c2 : w6.cell? ⟨w.heap.size, 2, none⟩ = some (.int .i64 c) := by with_reducible assumption
      go_wp2_with fail
      refine (K1.out _).mono ?_
      rintro e w7 ⟨rfl, hb⟩
      have c2 := keepc hb c2
      have HB := Lib.hid (belowT HB hb)
      clear hb
      cases r
      · go_wp2
        go_ret
        exact ⟨ret_bool (by simp [*]), HB.out⟩
      · by_cases h0 : c ≥ 0
        · have hd0 : decide (c ≥ 0) = true := decide_eq_true h0
          by_cases h1 : c ≤ 1099511627776
          · have hd1 : decide (c ≤ 1099511627776) = true := decide_eq_true h1
            go_wp2
            go_ret
            exact ⟨ret_bool (by simp [*]), HB.out⟩
          · have hd1 : decide (c ≤ 1099511627776) = false := decide_eq_false h1
            go_wp2
            go_ret
            exact ⟨ret_bool (by simp [*]), HB.out⟩
        · have hd0 : decide (c ≥ 0) = false := decide_eq_false h0
          go_wp2
          go_ret
          exact ⟨ret_bool (by simp [*]), HB.out⟩
end Go.Proofs.Ytibphmddepfgjaa

/-
  The contract of the given package gavotteref06's Cmp over this seat's translation. Conditions: the numbers are ints.
-/
namespace Go.Proofs.Ytibphmddepfgjaa
open Go.RowKit

theorem rint6 {k : IntKind} {a b : Int} (h : b = a) : Ending.returned (.int k a) = .returned (.int k b) := by rw [h]
set_option maxHeartbeats 4000000 in
set_option maxRecDepth 100000 in
theorem r6cmp_c (an ad ac bn bd bc : Int) (ha : In3 an ad ac) (hb : In3 bn bd bc) (w : World) :
    Calls Try.prog 32 #[stV an ad ac, stV bn bd bc] w fun e w' => e = .returned (.int .i64 (sCmp an ad ac bn bd bc)) ∧ Below w.heap.size w w' := by
  have K1 := Lib.hid (r6right_c an ad ac ha)
  have K2 := Lib.hid (r6right_c bn bd bc hb)
  have K3 := Lib.hid (rcmp_c an ad bn bd ⟨ha.1, ha.2.1⟩ ⟨hb.1, hb.2.1⟩)
  obtain ⟨W0, hW0⟩ : ∃ W0, (w.alloc (.cells #[.int .i64 an, .int .i64 ad, .int .i64 ac] 26)).alloc (.cells #[.int .i64 bn, .int .i64 bd, .int .i64 bc] 26) = W0 := ⟨_, rfl⟩
  have hb0 : Below w.heap.size w W0 := by rw [← hW0]; exact belowA (belowA (Below.refl _ w) _) _
  have hn1 : W0.heap[w.heap.size]? = some (.cells #[.int .i64 an, .int .i64 ad, .int .i64 ac] 26 (0, 0)) := by
    rw [← hW0, Below.heap_alloc _ _ _ (by simp)]
    exact World.alloc_heap_new w _
  have hn2 : W0.heap[w.heap.size + 1]? = some (.cells #[.int .i64 bn, .int .i64 bd, .int .i64 bc] 26 (0, 0)) := by
    have := World.alloc_heap_new (w.alloc (.cells #[.int .i64 an, .int .i64 ad, .int .i64 ac] 26)) (.cells #[.int .i64 bn, .int .i64 bd, .int .i64 bc] 26)
    rw [World.size_alloc] at this
    rw [← hW0]
    exact this
  have HN := Lib.hid (And.intro hb0 (And.intro hn1 hn2))
  have HW := Lib.hid hW0
  have HS := Lib.hid (show sCmp an ad ac bn bd bc = if sRight an ad ac = true ∧ sRight bn bd bc = true then (if cmpS an ad bn bd = 0 then sgn ac bc else cmpS an ad bn bd) else 0 from rfl)
  obtain ⟨a0, a1, a2⟩ := cells3 hn1 (Below.refl _ _)
  obtain ⟨b0, b1, b2⟩ := cells3 hn2 (Below.refl _ _)
  obtain ⟨S, hS⟩ : ∃ S, sCmp an ad ac bn bd bc = S := ⟨_, rfl⟩
  rw [hS] at HS ⊢
  obtain ⟨r1, hr1⟩ : ∃ r, sRight an ad ac = r := ⟨_, rfl⟩
  obtain ⟨r2, hr2⟩ : ∃ r, sRight bn bd bc = r := ⟨_, rfl⟩
  obtain ⟨x, hx⟩ : ∃ x, cmpS an ad bn bd = x := ⟨_, rfl⟩
  rw [hr1] at K1
  rw [hr2] at K2
  rw [hx] at K3
  rw [hr1, hr2, hx] at HS
  clear hr1 hr2 hx hS ha hb hb0 hn1 hn2 hW0
  go_enter Try.func32, Try.ntmps32
  go_wp2_with fail
  rw [HW.out]
  clear HW
  refine (K1.out _).mono ?_
  rintro e w1 ⟨rfl, hb1⟩
  obtain ⟨a0, a1, a2⟩ := cells3 HN.out.2.1 hb1
  obtain ⟨b0, b1, b2⟩ := cells3 HN.out.2.2 hb1
  have HB := Lib.hid hb1
  clear hb1
  cases r1
  · go_wp2
    go_ret
    exact ⟨rint6 (by rw [HS.out]; simp), belowT HN.out.1 HB.out⟩
  · go_wp2_with fail
    refine (K2.out _).mono ?_
    rintro e w2 ⟨rfl, hb2⟩
    have hbx := belowT HB.out hb2
    obtain ⟨a0, a1, a2⟩ := cells3 HN.out.2.1 hbx
    obtain ⟨b0, b1, b2⟩ := cells3 HN.out.2.2 hbx
    have HB := Lib.hid hbx
    clear hb2 hbx
    cases r2
    · go_wp2
      go_ret
      exact ⟨rint6 (by rw [HS.out]; simp), belowT HN.out.1 HB.out⟩
    · go_wp2_with fail
      refine (K3.out _).mono ?_
      rintro e w3 ⟨rfl, hb3⟩
      have hbx := belowT HB.out hb3
      obtain ⟨a0, a1, a2⟩ := cells3 HN.out.2.1 hbx
      obtain ⟨b0, b1, b2⟩ := cells3 HN.out.2.2 hbx
      have HB := Lib.hid (belowT HN.out.1 hbx)
      clear hb3 hbx
      by_cases h0 : x = 0
      · have HS0 := Lib.hid (show S = sgn ac bc from by rw [HS.out]; simp [h0])
        subst h0
        by_cases h1 : ac < bc
        · have hd : decide (ac < bc) = true := decide_eq_true h1
          go_wp2
          go_ret
          exact ⟨rint6 (by rw [HS0.out, sgn_lt h1]), HB.out⟩
        · have hd : decide (ac < bc) = false := decide_eq_false h1
          by_cases h2 : ac > bc
          · have hd2 : decide (ac > bc) = true := decide_eq_true h2
            have hd3 : decide (bc < ac) = true := decide_eq_true h2
            go_wp2
            go_ret
            exact ⟨rint6 (by rw [HS0.out, sgn_gt h2]), HB.out⟩
          · have hd2 : decide (ac > bc) = false := decide_eq_false h2
            have hd3 : decide (bc < ac) = false := decide_eq_false h2
            go_wp2
            go_ret
            exact ⟨rint6 (by rw [HS0.out, sgn_eq (by omega)]), HB.out⟩
      · have hx0 : (x != 0) = true := by simp [h0]
        have hx1 : (x == 0) = false := by simp [h0]
        go_wp2
        go_ret
        exact ⟨rint6 (by rw [HS.out]; simp [h0]), HB.out⟩
end Go.Proofs.Ytibphmddepfgjaa

/-
  The contracts of package stamp over this seat's translation, second part: Cmp, Less. Conditions: the numbers are ints.
-/
namespace Go.Proofs.Ytibphmddepfgjaa
open Go.RowKit

theorem cmpI_c (x y : Int) (w : World) :
    Calls Try.prog 55 #[.int .i64 x, .int .i64 y] w fun e w' => e = .returned (.int .i64 (sgn x y)) ∧ w = w' := by
  rcases Int.lt_trichotomy x y with h | h | h
  · go_enter Try.func55, Try.ntmps55
    go_wp2
    go_ret
    exact ⟨ret_int (sgn_lt h).symm, rfl⟩
  · subst h
    go_enter Try.func55, Try.ntmps55
    go_wp2
    go_ret
    exact ⟨ret_int (sgn_eq rfl).symm, rfl⟩
  · go_enter Try.func55, Try.ntmps55
    go_wp2
    go_ret
    exact ⟨ret_int (sgn_gt h).symm, rfl⟩
/-- Two boxes of stamps. -/
structure B2 (w : World) (an ad ac bn bd bc : Int) (W : World) : Prop where
  below : Below w.heap.size w W
  oa : W.heap[w.heap.size]? = some (.cells #[.int .i64 an, .int .i64 ad, .int .i64 ac] 33 (0, 0))
  ob : W.heap[w.heap.size + 1]? = some (.cells #[.int .i64 bn, .int .i64 bd, .int .i64 bc] 33 (0, 0))
theorem kbT {W W' : World} {b : Nat} {o : Obj} (h : W.heap[b]? = some o) (hb : Below W.heap.size W W') : W'.heap[b]? = some o := (hb.block b (Array.getElem?_eq_some_iff.1 h).1).trans h
theorem B2.on {w W W' : World} {an ad ac bn bd bc : Int} (h : B2 w an ad ac bn bd bc W) (hb : Below W.heap.size W W') : B2 w an ad ac bn bd bc W' := ⟨belowT h.below hb, kbT h.oa hb, kbT h.ob hb⟩
theorem B2.cells {w W : World} {an ad ac bn bd bc : Int} (h : B2 w an ad ac bn bd bc W) : (W.cell? ⟨w.heap.size, 0, none⟩ = some (.int .i64 an) ∧ W.cell? ⟨w.heap.size, 1, none⟩ = some (.int .i64 ad) ∧ W.cell? ⟨w.heap.size, 2, none⟩ = some (.int .i64 ac)) ∧ (W.cell? ⟨w.heap.size + 1, 0, none⟩ = some (.int .i64 bn) ∧ W.cell? ⟨w.heap.size + 1, 1, none⟩ = some (.int .i64 bd) ∧ W.cell? ⟨w.heap.size + 1, 2, none⟩ = some (.int .i64 bc)) := ⟨cells3 h.oa (Below.refl _ _), cells3 h.ob (Below.refl _ _)⟩
theorem B2.start (w : World) (an ad ac bn bd bc : Int) : B2 w an ad ac bn bd bc ((w.alloc (.cells #[.int .i64 an, .int .i64 ad, .int .i64 ac] 33)).alloc (.cells #[.int .i64 bn, .int .i64 bd, .int .i64 bc] 33)) := by
  refine ⟨belowA (belowA (Below.refl _ w) _) _, ?_, ?_⟩
  · rw [Below.heap_alloc _ _ _ (by simp)]
    exact World.alloc_heap_new w _
  · have := World.alloc_heap_new (w.alloc (.cells #[.int .i64 an, .int .i64 ad, .int .i64 ac] 33)) (.cells #[.int .i64 bn, .int .i64 bd, .int .i64 bc] 33)
    rw [World.size_alloc] at this
    exact this

set_option maxHeartbeats 8000000 in
set_option maxRecDepth 100000 in
theorem pcmp_c (an ad ac bn bd bc : Int) (ha : In3 an ad ac) (hb : In3 bn bd bc) (w : World) :
    Calls Try.prog 42 #[stV an ad ac, stV bn bd bc] w fun e w' => e = .returned (.int .i64 (sCmp an ad ac bn bd bc)) ∧ Below w.heap.size w w' := by
  have mixed : Try.prog.follows .mixedOrders = true := by kernel_rfl
  have K1 := Lib.hid (pright_c an ad ac ha)
  have K2 := Lib.hid (pright_c bn bd bc hb)
  have K3 := Lib.hid (cmp_c an ad bn bd ⟨ha.1, ha.2.1⟩ ⟨hb.1, hb.2.1⟩)
  have HS := Lib.hid (show sCmp an ad ac bn bd bc = if sRight an ad ac = true ∧ sRight bn bd bc = true then or2 (cmpS an ad bn bd) (sgn ac bc) else 0 from rfl)
  have HO := Lib.hid (B2.start w an ad ac bn bd bc)
  obtain ⟨W0, hW0⟩ : ∃ W0, ((w.alloc (.cells #[.int .i64 an, .int .i64 ad, .int .i64 ac] 33)).alloc (.cells #[.int .i64 bn, .int .i64 bd, .int .i64 bc] 33)) = W0 := ⟨_, rfl⟩
  have HW := Lib.hid hW0
  rw [hW0] at HO
  obtain ⟨S, hS⟩ : ∃ S, sCmp an ad ac bn bd bc = S := ⟨_, rfl⟩
  rw [hS] at HS ⊢
  obtain ⟨r1, hr1⟩ : ∃ r, sRight an ad ac = r := ⟨_, rfl⟩
  obtain ⟨r2, hr2⟩ : ∃ r, sRight bn bd bc = r := ⟨_, rfl⟩
  obtain ⟨x, hx⟩ : ∃ x, cmpS an ad bn bd = x := ⟨_, rfl⟩
  rw [hr1] at K1
  rw [hr2] at K2
  rw [hx] at K3
  rw [hr1, hr2, hx] at HS
  clear hr1 hr2 hx hS ha hb hW0
  obtain ⟨⟨a0, a1, a2⟩, b0, b1, b2⟩ := HO.out.cells
  go_enter Try.func42, Try.ntmps42
  go_wp2_with fail
  rw [HW.out]
  clear HW a0 a1 a2 b0 b1 b2
  refine (K1.out _).mono ?_
  rintro e w1 ⟨rfl, hb⟩
  replace HO := Lib.hid (HO.out.on hb)
  clear hb
  obtain ⟨⟨a0, a1, a2⟩, b0, b1, b2⟩ := HO.out.cells
  cases r1
  · go_wp2
    go_ret
    exact ⟨rint6 (by rw [HS.out]; simp), HO.out.below⟩
  · go_wp2_with fail
    clear a0 a1 a2 b0 b1 b2
    refine (K2.out _).mono ?_
    rintro e w2 ⟨rfl, hb⟩
    replace HO := Lib.hid (HO.out.on hb)
    clear hb
    obtain ⟨⟨a0, a1, a2⟩, b0, b1, b2⟩ := HO.out.cells
    cases r2
    · go_wp2
      go_ret
      exact ⟨rint6 (by rw [HS.out]; simp), HO.out.below⟩
    · go_wp2_with fail
      go_region_held3 (fun w' => w'.cell? ⟨w.heap.size, 0, none⟩ = some (.int .i64 an) ∧ w'.cell? ⟨w.heap.size, 1, none⟩ = some (.int .i64 ad) ∧ w'.cell? ⟨w.heap.size, 2, none⟩ = some (.int .i64 ac) ∧ w'.cell? ⟨w.heap.size + 1, 0, none⟩ = some (.int .i64 bn) ∧ w'.cell? ⟨w.heap.size + 1, 1, none⟩ = some (.int .i64 bd) ∧ w'.cell? ⟨w.heap.size + 1, 2, none⟩ = some (.int .i64 bc) ∧ Below w.heap.size w w')
        (first | (go_split_ands; exact ⟨keepc hb (by assumption), keepc hb (by assumption), keepc hb (by assumption), keepc hb (by assumption), keepc hb (by assumption), keepc hb (by assumption), belowT (by assumption) hb⟩) | exact ⟨a0, a1, a2, b0, b1, b2, Below.drew HO.out.below⟩ | (go_split_ands; have hba := belowA (Below.refl _ w6) (Obj.cells #[Value.int IntKind.i64 x, Value.int IntKind.i64 (sgn ac bc)] 3); exact ⟨keepc hba (by assumption), keepc hba (by assumption), keepc hba (by assumption), keepc hba (by assumption), keepc hba (by assumption), keepc hba (by assumption), belowT (by assumption) hba⟩) | go_keep)
        (first
          | (go_at_call 54; refine (K3.out _).mono ?_; rintro e w6 ⟨rfl, hb⟩)
          | (go_at_call 55; refine (cmpI_c _ _ _).mono ?_; rintro e w' ⟨rfl, rfl⟩)
          | (go_at_call 53; refine (or2_c _ x (sgn ac bc) _ ?hx ?hy).mono ?_; (case hx => go_simp); (case hy => go_simp); rintro e w' ⟨rfl, rfl⟩))
      all_goals go_wp2
      all_goals go_ret
      all_goals exact ⟨rint6 (by rw [HS.out]; simp), (by go_split_ands; repeat (first | with_reducible assumption | with_reducible exact Below.refl _ _ | with_reducible refine belowN ?_ _ | with_reducible refine Below.drew ?_ | with_reducible refine belowA ?_ _ | with_reducible refine belowT ?_ (by assumption)))⟩

set_option maxHeartbeats 8000000 in
set_option maxRecDepth 100000 in
theorem pless_c (an ad ac bn bd bc : Int) (ha : In3 an ad ac) (hb : In3 bn bd bc) (w : World) :
    Calls Try.prog 27 #[stV an ad ac, stV bn bd bc] w fun e w' => e = .returned (.bool (decide (sCmp an ad ac bn bd bc < 0))) ∧ Below w.heap.size w w' := by
  have K1 := Lib.hid (pcmp_c an ad ac bn bd bc ha hb)
  have HO := Lib.hid (B2.start w an ad ac bn bd bc)
  obtain ⟨W0, hW0⟩ : ∃ W0, ((w.alloc (.cells #[.int .i64 an, .int .i64 ad, .int .i64 ac] 33)).alloc (.cells #[.int .i64 bn, .int .i64 bd, .int .i64 bc] 33)) = W0 := ⟨_, rfl⟩
  have HW := Lib.hid hW0
  rw [hW0] at HO
  generalize sCmp an ad ac bn bd bc = S at *
  clear ha hb hW0
  obtain ⟨⟨a0, a1, a2⟩, b0, b1, b2⟩ := HO.out.cells
  go_enter Try.func27, Try.ntmps27
  go_wp2_with fail
  rw [HW.out]
  clear HW a0 a1 a2 b0 b1 b2
  refine (K1.out _).mono ?_
  rintro e w1 ⟨rfl, hb⟩
  replace HO := Lib.hid (HO.out.on hb)
  clear hb
  go_wp2
  go_ret
  exact ⟨rfl, HO.out.below⟩
end Go.Proofs.Ytibphmddepfgjaa
