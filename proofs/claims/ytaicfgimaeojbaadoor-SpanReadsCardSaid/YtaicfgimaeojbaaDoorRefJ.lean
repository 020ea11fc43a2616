/-
  The contract of the given package gavotteref01's Num.Div over this seat's translation: quotient and rest. Conditions: those that each theorem states.
-/
import Derived.Test.YtaicfgimaeojbaaDoorRefI
import Derived.Deep.DeepCutAuto
import Derived.Laws.AppendOwnNone
namespace Go.Proofs.YtaicfgimaeojbaaDoor
open Go.RowKit
attribute [local go_sem ↓] Go.wp_at_zero Go.wp_at_succ

def DivPost (w : World) (Q R : Int) (e : Ending) (w' : World) : Prop := (∃ v u, e = .returned (.tuple #[v, u]) ∧ NumIs w' v Q ∧ NumIs w' u R) ∧ Below w.heap.size w w'
def DivRel (la : List Int) (B : Int) (w : World) (vr vi : Value) (wr : World) : Prop :=
  ∃ (k : Nat) (qs : List Int) (R : Int), vi = .int .i64 ((k : Int) - 1) ∧ DivI la B k qs R ∧ (NumIs wr vr R ∧ New (w.heap.size + 1) vr) ∧ RowL wr w.heap.size w.heap.size la.length qs ∧ Below w.heap.size w wr
def DivCut (wr : World) (R : Int) (s : Value) (wx : World) : Prop := (NumIs wx s R ∧ New wr.heap.size s) ∧ Below wr.heap.size wr wx
def DivIn (wo : World) (B R : Int) (vl vh : Value) (wr : World) : Prop :=
  ∃ (l h : Int), vl = .int .i64 l ∧ vh = .int .i64 h ∧ 0 ≤ l ∧ l ≤ h ∧ h ≤ 9999 ∧ l * B ≤ R ∧ R < (h + 1) * B ∧ Below wo.heap.size wo wr

theorem lt_s {x : Int} (h : x < 10000) : x < 10000 ^ 100 := by
  have := pow_mono 1 100 (by omega)
  rw [Int.pow_succ, Int.pow_zero] at this
  omega
theorem lt_b {x : Int} (h : x < 10000 ^ 20) : x < 10000 ^ 100 := by
  have := pow_mono 20 100 (by omega)
  exact Int.lt_of_lt_of_le h this
theorem lt_c {x B : Int} (h : B < 10000 ^ 20) (hx : x ≤ 9999 * B) : x < 10000 ^ 100 := by
  have h1 := pow_mono 21 100 (by omega)
  have h2 := pow_s 20
  have h3 := pow_pos' 20
  generalize (10000 : Int) ^ 100 = M at *
  generalize (10000 : Int) ^ 20 = P at *
  generalize (10000 : Int) ^ (20 + 1) = Q at *
  omega
theorem lt_d {x B : Int} (h : B < 10000 ^ 20) (hx : x < 10000 * B) : x < 10000 ^ 300 := by
  have h1 := pow_mono 21 300 (by omega)
  have h2 := pow_s 20
  have h3 := pow_pos' 20
  generalize (10000 : Int) ^ 300 = M at *
  generalize (10000 : Int) ^ 20 = P at *
  generalize (10000 : Int) ^ (20 + 1) = Q at *
  omega

set_option maxHeartbeats 4000000 in
set_option maxRecDepth 100000 in
theorem div_w (x : Option Addr) (cx : Nat) (la : List Int) (hla : la.length ≤ 20) (da : Dig la) (vb : Value) (B : Int) (hB : 0 < B) (hB2 : B < 10000 ^ 20) (w : World)
    (hx : la = [] ∨ ∃ b off, x = some ⟨b, off, none⟩ ∧ ∀ i, i < la.length → w.cell? ⟨b, off + i, none⟩ = some (.int .i64 (la.getD i 0))) (hb : NumIs w vb B) :
    Calls Tryd.prog 27 #[.slice x la.length cx, vb] w (DivPost w (val la / B) (val la % B)) := by
  obtain ⟨i0, hi, hz0, hz1, hz2⟩ := info_parts infoInt
  have HX := Lib.hid hx
  have HB := Lib.hid hb
  have DA := Lib.hid da
  have HB2 := Lib.hid hB2
  clear hx hb da hB2
  go_enter Tryd.func27, Tryd.ntmps27
  go_wp2_with (at_make; refine wpList_make_full _ rfl _ _ 38 rfl w.heap.size 3 i0 (.int .i64 0) 1 Tryd.underlying38 hi hz0 hz1 .i64 .i64 _ _ la.length rfl rfl ?b1 ?b2 ?b3 ?b4 ?b5 ?_)
  try (case b1 => rfl)
  try (case b2 => rfl)
  case b3 => rw [hz2]; omega
  case b4 => unfold maxLen; omega
  case b5 => exact Nat.le_refl _
  intro w0 hown hgrow
  have hb0 := Below.grown (Below.refl w.heap.size w) hgrow (Nat.le_refl _) (fun k hk => by simp at hk)
  have R0 := Lib.hid (show RowL w0 w.heap.size w.heap.size la.length (List.replicate la.length 0) from by
    refine ⟨?_, Nat.le_refl _⟩
    rw [List.map_replicate, ← toList_madeCells_one]
    simpa using hown)
  clear hown hgrow
  go_wp2
  go_loopw [7, 8, 9, 10, 11] (fun vr vi _ _ _ wr => DivRel la B w vr vi wr) (fun _ vi _ _ _ _ => (intOf vi + 1).toNat)
  case atStart => exact ⟨la.length, _, 0, rfl, DivI.start la B hB, ⟨⟨[], ⟨none, 0, rfl, .inl rfl⟩, fun _ h => by simp at h, by simp [Can], rfl, Shp.nil⟩, New.nil _ _ _⟩, R0.out, hb0⟩
  case round =>
    clear R0
    obtain ⟨k, qs, R, rfl, hI, hN, hR, hbl⟩ := hrel
    have HI := Lib.hid hI
    have HR := Lib.hid hR
    have HN := Lib.hid hN
    obtain ⟨wA, rfl⟩ : ∃ wA : World, wA = wr := ⟨_, rfl⟩
    have hkl := hI.hk
    have hr0 := hI.r0
    have hr1 := hI.r1
    clear hI hR hN
    cases k with
    | zero =>
      rw [show ((0 : Nat) : Int) - 1 = -1 from rfl]
      have HD := Lib.hid HI.out.done
      have hql := HI.out.len
      go_wp2_with fail
      refine (trim_own _ qs (by omega) w.heap.size wA (HR.out.own hql) HI.out.dig).mono ?_
      rintro e w1 ⟨⟨v', rfl, hv', _⟩, rfl⟩
      go_wp2
      exact bodyPost_ret (v := .tuple #[v', u7]) (by simp [results, Tryd.results27, go_sem]) rfl ⟨⟨v', u7, rfl, HD.out.1 ▸ hv', HD.out.2 ▸ HN.out.1⟩, hbl⟩
    | succ j =>
      rw [show ((j + 1 : Nat) : Int) - 1 = (j : Int) from by omega]
      have hj : (j : Int) < (la.length : Int) := by omega
      have hj0 : (0 : Int) ≤ (j : Int) := by omega
      rcases HX.out with rfl | ⟨b, off, rfl, hcx⟩
      · simp at hkl
      have c2 := keepc hbl (hcx j (by omega))
      have hxd := DA.out.at j
      have HS := Lib.hid (fun u => HI.out.step (u := u))
      have hql := HI.out.len
      clear HI
      generalize la.getD j 0 = X at *
      go_upto_region 6 with fail
      go_cut [7] (fun s wx => DivCut wA (X + 10000 * R) s wx)
      case first =>
        obtain ⟨rl, ⟨xr, cr, rfl, hxr⟩, d2, d3, rfl, hsh⟩ := HN.out.1
        have hrl : rl.length ≤ 20 := can_len rl d2 d3 20 (by have := HB2.out; omega)
        have D2 := Lib.hid d2
        have HXR := Lib.hid hxr
        clear d2 d3 hxr
        rcases xr with _ | a
        · obtain ⟨e1, rfl⟩ := hsh _ _ rfl
          have e2 := List.eq_nil_of_length_eq_zero e1
          subst e2
          have HO := Lib.hid (show OwnL (wA.alloc (.cells #[.int .i64 X] 3)) wA.heap.size (.slice (some ⟨wA.heap.size, 0, none⟩) 1 1) [X] from World.ownsRow_lit wA #[.int .i64 X] 1 (Nat.le_refl _) (by unfold maxLen; omega) rfl)
          go_wp2_with (at_builtin; refine wpList_append_own_none rfl _ _ 38 rfl wA.heap.size 3 i0 1 Tryd.underlying38 hi _ _ _ rfl HO.out rfl ?_)
          refine (trim_own _ [X] (by simp) wA.heap.size _ HO.out (Dig.one hxd.1 hxd.2)).mono ?_
          rintro e w2 ⟨⟨v2, rfl, hv2, hn2⟩, rfl⟩
          go_wp2_with fail
          go_meet
          exact ⟨⟨hv2, hn2⟩, belowA (Below.refl _ _) _⟩
        · have hcell : ∀ j u, (rl.map (Value.int .i64))[j]? = some u → (wA.alloc (.cells #[.int .i64 X] 3)).cell? (a.add j) = some u := by
            intro j u hju
            rw [List.getElem?_map, Option.map_eq_some_iff] at hju
            obtain ⟨d, hd, rfl⟩ := hju
            have hjl : j < rl.length := (List.getElem?_eq_some_iff.1 hd).1
            rcases HXR.out with rfl | ⟨b', off', e1, hcr⟩
            · simp at hjl
            · obtain rfl : a = ⟨b', off', none⟩ := by simpa using e1
              have := keepc (belowA (Below.refl wA.heap.size wA) (.cells #[.int .i64 X] 3)) (hcr j hjl)
              simp only [Addr.add, List.getD, hd, Option.getD_some] at this ⊢
              split
              · rename_i h0; subst h0; exact this
              · exact this
          have HC := Lib.hid hcell
          clear hcell
          go_wp2_with (at_builtin; refine wpList_append_own _ rfl _ _ 38 rfl wA.heap.size 3 i0 (.int .i64 0) 1 8 Tryd.underlying38 hi hz0 hz1 hz2 rfl (by decide) _ _ _ rfl (World.ownsRow_lit wA #[.int .i64 X] 1 (Nat.le_refl _) (by unfold maxLen; omega) rfl) a rl.length cr (rl.map (Value.int .i64)) rfl ?c0 HC.out ?c2 ?c3 ?c4 ?c5 ?_)
          case c0 => simp
          case c2 => simp [Value.oneCell']
          case c3 => unfold maxLen; omega
          case c4 => omega
          case c5 => simp
          intro v1 w1 hown1 hgrow1 _
          have hb1 := Below.grown (belowA (Below.refl wA.heap.size wA) _) hgrow1 (belowA (Below.refl wA.heap.size wA) _).size (fun k hk => by simp [Value.ownBlock] at hk; omega)
          have h3 : OwnL w1 wA.heap.size v1 (X :: rl) := by
            simp only [OwnL, List.length_cons, List.map_cons]
            rw [Nat.add_comm rl.length 1]
            exact hown1
          have HO := Lib.hid h3
          clear hown1 hgrow1 h3
          go_wp2_with fail
          refine (trim_own v1 (X :: rl) (by simp; omega) wA.heap.size w1 HO.out ((Dig.one hxd.1 hxd.2).app D2.out)).mono ?_
          rintro e w2 ⟨⟨v2, rfl, hv2, hn2⟩, rfl⟩
          go_wp2_with fail
          go_meet
          exact ⟨⟨hv2, hn2⟩, hb1⟩
      case rest =>
        obtain ⟨hN2, hbc⟩ := hcut
        have hg1 : w.heap.size < wA.heap.size := by
          have := World.block_lt_of_cell? wA _ (HR.out.cell hql j (by omega))
          exact this
        have HN2 := Lib.hid (And.intro hN2.1 (hN2.2.mono hg1))
        have HR2 := Lib.hid (HR.out.keep hbc)
        have hb2 := belowT hbl hbc
        have HB3 := Lib.hid (HB.out.keep hb2)
        have hlo : 0 * B ≤ X + 10000 * R := by omega
        have hhi : X + 10000 * R < (9999 + 1) * B := by omega
        clear hN2 HN HR hbc hbl c2
        obtain ⟨wo, rfl⟩ : ∃ wo : World, wo = wc := ⟨_, rfl⟩
        have HLO := Lib.hid hlo
        have HHI := Lib.hid hhi
        clear hlo hhi
        go_wp2
        go_loopw [9, 10, 11] (fun vl vh _ wr => DivIn wo B (X + 10000 * R) vl vh wr) (fun vl vh _ _ => (intOf vh - intOf vl).toNat)
        case atStart => exact ⟨0, 9999, rfl, rfl, by omega, by omega, by omega, HLO.out, HHI.out, Below.refl _ _⟩
        case round =>
          clear HLO HHI
          obtain ⟨l, h, rfl, rfl, hl0, hlh, hh1, hlo, hhi, hbi⟩ := hrel
          have HLO := Lib.hid hlo
          have HHI := Lib.hid hhi
          clear hlo hhi
          by_cases hlt : l < h
          · have hm0 : l < (l + h + 1) / 2 ∧ (l + h + 1) / 2 ≤ h := by omega
            have hmb : (l + h + 1) / 2 * B ≤ 9999 * B := Int.mul_le_mul_of_nonneg_right (by omega) (by omega)
            have HMB := Lib.hid hmb
            clear hmb
            go_wp2_with fail
            refine (from_c ((l + h + 1) / 2) (by omega) (by omega) wr).mono ?_
            rintro e w1 ⟨⟨v1, rfl, n1⟩, hb1⟩
            have N1 := Lib.hid n1
            clear n1
            go_wp2_with fail
            refine (nmul_c v1 vb _ B w1 N1.out (HB3.out.keep (belowT hbi hb1)) (lt_s (by omega)) (lt_b HB2.out)).mono ?_
            rintro e w2 ⟨⟨v2, rfl, n2, _⟩, hb2'⟩
            have N2 := Lib.hid n2
            clear n2 N1
            go_wp2_with fail
            refine (numcmp_c v2 _ _ _ w2 N2.out (HN2.out.1.keep (belowT (belowT hbi hb1) hb2')) (lt_c HB2.out (by have := HMB.out; omega))).mono ?_
            rintro e w3 ⟨rfl, hb3⟩
            have hb4 := belowT (belowT (belowT hbi hb1) hb2') hb3
            by_cases hle : (l + h + 1) / 2 * B ≤ X + 10000 * R
            · have hs : sgn ((l + h + 1) / 2 * B) (X + 10000 * R) ≤ 0 := by unfold sgn; (repeat' split) <;> omega
              have HLE := Lib.hid hle
              generalize sgn ((l + h + 1) / 2 * B) (X + 10000 * R) = sg at *
              clear hle hb1 hb2' hb3 N2 HMB
              go_wp2
              go_roundw
              case rel => exact ⟨_, h, rfl, rfl, by omega, by omega, by omega, HLE.out, HHI.out, hb4⟩
              case measure => simp [intOf]; omega
            · have hs : ¬ sgn ((l + h + 1) / 2 * B) (X + 10000 * R) ≤ 0 := by unfold sgn; (repeat' split) <;> omega
              have HLE := Lib.hid hle
              generalize sgn ((l + h + 1) / 2 * B) (X + 10000 * R) = sg at *
              clear hle hb1 hb2' hb3 N2 HMB
              go_wp2
              go_roundw
              case rel => exact ⟨l, _, rfl, rfl, by omega, by omega, by omega, HLO.out, by have := HLE.out; rw [Int.sub_add_cancel]; omega, hb4⟩
              case measure => simp [intOf]; omega
          · obtain rfl : l = h := by omega
            have hR3 := HR2.out.keep hbi
            have c1 := hR3.cell hql j (by omega)
            have f1 := hR3.1.frozenAt j
            have HR3 := Lib.hid hR3
            clear hR3
            go_wp2_with fail
            have hbS : Below w.heap.size w (wr.setCell ⟨w.heap.size, j, none⟩ (.int .i64 l)) := (belowT hb2 hbi).setCell (Nat.le_refl _) _
            have RS := Lib.hid (HR3.out.set j l)
            have NS := Lib.hid ((HN2.out.1.keep hbi).set HN2.out.2 j (.int .i64 l))
            clear c1 f1
            generalize (wr.setCell ⟨w.heap.size, j, none⟩ (.int .i64 l)) = wS at *
            refine (from_c l (by omega) (by omega) wS).mono ?_
            rintro e w1 ⟨⟨v1, rfl, n1⟩, hb1⟩
            have N1 := Lib.hid n1
            clear n1
            go_wp2_with fail
            refine (nmul_c v1 vb _ B w1 N1.out (HB.out.keep (belowT hbS hb1)) (lt_s (by omega)) (lt_b HB2.out)).mono ?_
            rintro e w2 ⟨⟨v2, rfl, n2, _⟩, hb2'⟩
            have N2 := Lib.hid n2
            clear n2 N1
            go_wp2_with fail
            refine (nsub_c _ v2 _ _ w2 (NS.out.keep (belowT hb1 hb2')) N2.out (lt_d HB2.out (by omega)) HLO.out).mono ?_
            rintro e w3 ⟨⟨v3, rfl, n3, nn3⟩, hb3⟩
            have N3 := Lib.hid (And.intro n3 nn3)
            have RS2 := Lib.hid (RS.out.keep (belowT hb1 hb2'))
            clear n3 nn3
            go_wp2
            go_roundw
            case rel =>
              refine ⟨j, qs.set j l, X + 10000 * R - l * B, by simp, HS.out l (by omega) (by omega) HLO.out HHI.out, ⟨N3.out.1, N3.out.2.mono ?_⟩, RS2.out.keep hb3, belowT (belowT (belowT hbS hb1) hb2') hb3⟩
              exact World.block_lt_of_cell? w2 _ (RS2.out.cell (by simpa using hql) j (by omega))
            case measure => simp [intOf]

theorem ndiv_c (va vb : Value) (A B : Int) (w : World) (na : NumIs w va A) (nb : NumIs w vb B) (hA : A < 10000 ^ 20) (hB : 0 < B) (hB2 : B < 10000 ^ 20) :
    Calls Tryd.prog 27 #[va, vb] w (DivPost w (A / B) (A % B)) := by
  obtain ⟨la, ⟨x, cx, rfl, hx⟩, a2, a3, rfl, _⟩ := na
  exact div_w x cx la (can_len la a2 a3 20 hA) a2 vb B hB hB2 w hx nb
end Go.Proofs.YtaicfgimaeojbaaDoor
