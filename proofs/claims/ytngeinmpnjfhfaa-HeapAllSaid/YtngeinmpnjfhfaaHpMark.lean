/-
  A map as a table of places, and heap's mark over this seat's translation. No condition but those that each theorem states.
-/
import Derived.Test.YtngeinmpnjfhfaaHpShift
import Derived.Maps.OwnSet
namespace Go.Proofs.Ytngeinmpnjfhfaa
open Go.Shelf Go.RowKit Go.Lib Go.Sort Hp Go.Maps

/-- A map's datum is a table of places. -/
def Is (D : DataW Unit) (m : Tab) : Prop := ∀ x : Int, (∀ i : Nat, m x = some i → Maps.has D (.int .i64 x) = true ∧ ∀ z, D.atKey (.int .i64 x) z = .lit (.int .i64 i)) ∧ (m x = none → Maps.has D (.int .i64 x) = false)
theorem Is.put {D : DataW Unit} {m : Tab} (h : Is D m) (hm : IsMap D) (x : Int) (i : Nat) : Is (D.put (.int .i64 x) (.lit (.int .i64 i))) (ins m x i) := by
  intro y
  by_cases e : y = x
  · subst e
    refine ⟨fun j hj => ?_, fun hj => ?_⟩
    · have : i = j := by simpa [ins] using hj
      subst this
      exact ⟨has_put_same hm (show WideAt.IsKeyLit (.int .i64 y) from trivial) _, fun z => atKey_put_same hm (show WideAt.IsKeyLit (.int .i64 y) from trivial) _ _⟩
    · simp [ins] at hj
  · have hne : Lit.int .i64 y ≠ Lit.int .i64 x := fun h => e (by simpa using h)
    have h2 : ins m x i y = m y := if_neg e
    rw [h2]
    refine ⟨fun j hj => ?_, fun hj => ?_⟩
    · rw [has_put_other hne]
      exact ⟨((h y).1 j hj).1, fun z => by rw [atKey_put_other hne]; exact ((h y).1 j hj).2 z⟩
    · rw [has_put_other hne]
      exact (h y).2 hj
theorem Is.del {D : DataW Unit} {m : Tab} (h : Is D m) (x : Int) : Is (D.del (.int .i64 x)) (cut m x) := by
  intro y
  by_cases e : y = x
  · subst e
    refine ⟨fun j hj => ?_, fun _ => has_del_same⟩
    simp [cut] at hj
  · have hne : Lit.int .i64 y ≠ Lit.int .i64 x := fun h => e (by simpa using h)
    have h2 : cut m x y = m y := if_neg e
    rw [h2]
    refine ⟨fun j hj => ?_, fun hj => ?_⟩
    · rw [has_del_other hne]
      exact ⟨((h y).1 j hj).1, fun z => by rw [atKey_del_other hne]; exact ((h y).1 j hj).2 z⟩
    · rw [has_del_other hne]
      exact (h y).2 hj
theorem keyedI : Keyed Try.prog 3 := int_keyed Try.underlying3
theorem zeroI (w : World) : (zeroValue 3).run Try.prog w = .ok (.int .i64 0) w := by first | exact Try.zeroValue3 w | exact Try.zeroValue3 _ w | kernel_rfl
abbrev W64 (x : Int) : Prop := (Lit.int .i64 x).wf = true
theorem w64_nat {n : Nat} (h : n ≤ 1000000) : W64 (n : Int) := by
  have h1 : IntKind.i64.min = -9223372036854775808 := by decide
  have h2 : IntKind.i64.max = 9223372036854775807 := by decide
  simp [W64, Lit.wf]
  omega
theorem step_mapUpdate_run {P : Program} {ops : Array Oper} {o : Oper} {a : Act} {w w' : World} {K : Act → World → Prop} {Q : Exit → Act → World → Prop} {E : Prop}
    (hg : o.guard = none) (m x v : Operand) (t : TypeId) (hop : o.op = Op.mapUpdate t m x v) {vm vx vv : Value} (hm : a.eval m = vm) (hx : a.eval x = vx) (hv : a.eval v = vv)
    (hr : (Instr.mapUpdate t vm vx vv).run P w = .ok () w') (hK : K (a.put o.dst undef) w') :
    if Region.wanted o (yielded ops a.tmps) = true then Oper.wp P o a w K Q else E := by
  have hw : Region.wanted o (yielded ops a.tmps) = true := by simp [Region.wanted, hg]
  rw [if_pos hw]
  unfold Oper.wp
  simp [execOp, hop, hm, hx, hv, hr, Result.andThen]
  exact hK

/-- Where marking stands. -/
structure Mk (w : World) (mb n0 k0 : Nat) (X : List It) (lo k : Nat) (mR : Tab) (wr : World) : Prop where
  own : ∃ n D m, n + k ≤ n0 + k0 ∧ wr.ownsMap (H := Unit) Try.prog 3 (plainElem Try.prog 3) mb n D ∧ Is D m ∧ mkF X lo k m = mR
  grown : w.grownBy wr (some mb)
theorem grown_keep {w wr : World} {mb b : Nat} {o : Obj} (h : w.grownBy wr (some mb)) (hb : w.heap[b]? = some o) (hne : b ≠ mb) : wr.heap[b]? = some o := (h.block b (Array.getElem?_eq_some_iff.1 hb).1 (by simpa using hne)).trans hb

set_option maxHeartbeats 8000000 in
set_option maxRecDepth 100000 in
theorem mark_c (hb gb mb cap a b n0 : Nat) (c : Value) (X : List It) (D : DataW Unit) (m : Tab) (w : World) (hbox : w.heap[hb]? = some (.cells #[c, .slice (some ⟨gb, 0, none⟩) X.length cap, .map (some mb)] 63 (0, 0)))
    (hrow : RowIs It.cells 2 33 gb X.length cap w X) (hk : ∀ i, i < X.length → W64 (Hp.g X i).1) (hown : w.ownsMap (H := Unit) Try.prog 3 (plainElem Try.prog 3) mb n0 D) (hD : Is D m)
    (ha : a < X.length) (hbb : b < X.length) (hlen : X.length ≤ 1000000) (hn0 : n0 ≤ 1000000000) :
    Calls Try.prog 34 #[.pointer (some ⟨hb, 0, none⟩), .int .i64 a, .int .i64 b] w fun r w' => r = .returned (.tuple #[]) ∧ (∃ n D', w'.ownsMap (H := Unit) Try.prog 3 (plainElem Try.prog 3) mb n D' ∧ Is D' (mkF X (min a b) (max a b + 1) m)) ∧ w.grownBy w' (some mb) := by
  have mixed : Try.prog.follows .mixedOrders = true := by kernel_rfl
  have hmb : w.heap[hb]? ≠ w.heap[mb]? := by
    obtain ⟨es, clock, h, _⟩ := hown
    rw [h, hbox]
    simp
  have hgm : gb ≠ mb := by
    rintro rfl
    obtain ⟨es, clock, h, _⟩ := hown
    obtain ⟨cur, h1, _⟩ := hrow.whole
    rw [h] at h1
    simp at h1
  have hhm : hb ≠ mb := fun e => hmb (by rw [e])
  obtain ⟨hi, hhi⟩ : ∃ hi, max a b = hi := ⟨_, rfl⟩
  obtain ⟨lo, hlo⟩ : ∃ lo, min a b = lo := ⟨_, rfl⟩
  have hlh : lo ≤ hi := by omega
  have hhl : hi < X.length := by omega
  have mx1 : (if (b : Int) > (a : Int) then (b : Int) else (a : Int)) = (hi : Int) := by split <;> omega
  have mx2 : (if a < b then (b : Int) else (a : Int)) = (hi : Int) := by split <;> omega
  have mx3 : (if (a : Int) < (b : Int) then (b : Int) else (a : Int)) = (hi : Int) := by split <;> omega
  have mx4 : max (a : Int) (b : Int) = (hi : Int) := by omega
  have mn3 : min (a : Int) (b : Int) = (lo : Int) := by omega
  have mn1 : (if (b : Int) < (a : Int) then (b : Int) else (a : Int)) = (lo : Int) := by split <;> omega
  have mn2 : (if b < a then (b : Int) else (a : Int)) = (lo : Int) := by split <;> omega
  rw [hhi, hlo]
  obtain ⟨mR, hmR⟩ : ∃ mR, mkF X lo (hi + 1) m = mR := ⟨_, rfl⟩
  rw [hmR]
  have KA := Lib.hid fun (t : Nat) (ht : t ≤ 1000000) (w : World) => (above_c t ht w).mono (R' := fun e w' => e = .returned (.int .i64 ((((t + 1) / 2 : Nat) : Int) - 1)) ∧ w = w') fun _ _ ⟨h1, h2⟩ => ⟨h1, h2.symm⟩
  obtain ⟨n, hn⟩ : ∃ n, X.length = n := ⟨_, rfl⟩
  have HS := Lib.hid (show Mk w mb n0 (hi + 1) X lo (hi + 1) mR w from ⟨⟨n0, D, m, Nat.le_refl _, hown, hD, hmR⟩, ⟨rfl, rfl, rfl, Nat.le_refl _, fun _ _ _ => rfl⟩⟩)
  have HB := Lib.hid (And.intro hbox (And.intro hrow (And.intro hk (And.intro hn (And.intro hgm hhm)))))
  clear hbox hrow hk hown hD hmb hgm hhm hmR hhi hlo ha hbb
  rw [hn] at hhl hlen
  clear hn
  go_enter Try.func34, Try.ntmps34
  go_wp2
  clear mx1 mx2 mx3 mx4
  go_loopw [6] (fun v wr => ∃ k : Nat, v = .int .i64 ((k : Int) - 1) ∧ k ≤ hi + 1 ∧ Hid (Mk w mb n0 (hi + 1) X lo k mR wr)) (fun v _ => (intOf v + 1).toNat)
  case atStart => exact ⟨hi + 1, by rw [show (((hi + 1 : Nat) : Int) - 1) = (hi : Int) from by omega], Nat.le_refl _, HS.out⟩
  case round =>
    clear HS
    obtain ⟨k, rfl, hkh, HH⟩ := hrel
    by_cases hlt : lo < k
    · obtain ⟨i, rfl⟩ : ∃ i, k = i + 1 := ⟨k - 1, by omega⟩
      have hc : (((i + 1 : Nat) : Int) - 1) = (i : Int) := by omega
      rw [hc]
      have hd1 : decide ((i : Int) ≥ (lo : Int)) = true := decide_eq_true (by omega)
      have hd2 : decide (lo ≤ i) = true := decide_eq_true (by omega)
      have hiz : (i : Int) < (n : Int) := by omega
      obtain ⟨hbox, hrow, hk, hn, hgm, hhm⟩ := HB.out
      have hg := HH.out.grown
      have hboxr := grown_keep hg hbox hhm
      rw [hn] at hboxr
      obtain ⟨c0, c1, c2, _⟩ := cell_three hboxr
      obtain ⟨cur, hcur, _⟩ := hrow.whole
      have hrowr : RowIs It.cells 2 33 gb X.length cap wr X := hrow.same cT_len ((grown_keep hg hcur hgm).trans hcur.symm)
      obtain ⟨a1, a2, _, _⟩ := hrowr.cells (i := i) (by omega)
      obtain ⟨x, hx⟩ : ∃ x, Hp.g X i = x := ⟨_, rfl⟩
      rw [hx] at a1 a2
      obtain ⟨nn, D, m, h1, h2, h3, h4⟩ := HH.out.own
      obtain ⟨W1, hrun, hown1, hgr1⟩ := World.ownsMap.update h2.drew keyedI Try.underlying61 (show nn < maxLen by unfold maxLen; omega) (keyOf_int_mk Try.underlying3 (show (Lit.int .i64 x.1).wf = true from by rw [← hx]; exact hk i (by omega))) (plainElem_int Try.underlying3 (w64_nat (n := i) (by omega)))
      have HQ := Lib.hid (show Mk w mb n0 (hi + 1) X lo ((i + 1) / 2) mR W1 from by
        refine ⟨⟨nn + 1, _, ins m x.1 i, by omega, hown1, h3.put h2.isMap _ _, ?_⟩, ?_⟩
        · rw [← h4, mkF.eq_def X lo (i + 1), dif_pos hlt, Nat.add_sub_cancel, hx]
        · exact ⟨hgr1.os.trans hg.os, hgr1.tape.trans hg.tape, hgr1.output.trans hg.output, Nat.le_trans hg.size hgr1.size, fun j hj hne => (hgr1.block j (Nat.lt_of_lt_of_le hj hg.size) hne).trans (hg.block j hj hne)⟩)
      have HR := Lib.hid hrun
      have KA1 := Lib.hid fun (w : World) => KA.out i (by omega) w
      clear hbox hrow hk hn hgm hhm hg hboxr hcur hrowr hx h1 h2 h3 h4 hown1 hgr1 hrun HH c0 a2 hlt
      go_wp2_with fail
      have hrn := HR.out
      go_big_region_o
      clear hrn
      clear c1 c2 a1
      go_wp2_with (first | (go_at_call 42; refine (KA1.out _).mono ?_; rintro e2 w2 ⟨rfl, rfl⟩))
      exact ⟨⟨(i + 1) / 2, rfl, by omega, HQ.out⟩, by simp [intOf]; omega⟩
    · have hd1 : decide ((k : Int) - 1 ≥ (lo : Int)) = false := decide_eq_false (by omega)
      have hd2 : ¬ (lo : Int) ≤ (k : Int) - 1 := by omega
      obtain ⟨nn, D, m, h1, h2, h3, h4⟩ := HH.out.own
      have h4 : m = mR := by rw [← h4, mkF, dif_neg hlt]
      have HQ := Lib.hid (And.intro h2 (And.intro (show Is D mR from h4 ▸ h3) HH.out.grown))
      clear h1 h2 h3 h4 HH hlt
      go_wp2
      go_end0
      exact ⟨rfl, ⟨nn, D, HQ.out.1, HQ.out.2.1⟩, HQ.out.2.2⟩
end Go.Proofs.Ytngeinmpnjfhfaa
