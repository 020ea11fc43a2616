/-
  The merge of two neighbouring stretches, in place (slices.symMergeCmpFunc at items) over this seat's translation. Conditions: those that each theorem states.
-/
import Derived.Test.YtfjipkkhjjpaiaaStSymAT
import Derived.Test.YtfjipkkhjjpaiaaStSymBI
namespace Go.Proofs.Ytfjipkkhjjpaiaa
open Go.Shelf Go.RowKit Go.Lib Go.Sort St

set_option maxHeartbeats 64000000 in
set_option maxRecDepth 1000000 in
theorem symStep_T (g : Nat) (cb : Array Value) (eg : ∀ args w, (callFunc g args).run Try.prog w = .ok (.enter g args) w) {cf : It → It → Int} {key : It → Int} (hcf : ∀ x y, cf x y < 0 ↔ key x < key y) (blk off cap : Nat) (d0 : Array It) (w0 : World) (hsz : d0.size < 4611686018427387904)
    (hcmp : ∀ W, CmpLays Try.prog g cb It.cells 2 cf blk off d0.size W) (R : RowK It.cells 2 w0 blk off d0)
    (a m b : Nat) (d : Array It) (w : World) (hs : d0.size = d.size) (S : SWK It.cells 2 w0 blk off d w) (ham : a + 1 < m) (hmb : m + 1 < b) (hb : b ≤ d.size) (s1 : Srt key a m d) (s2 : Srt key m b d)
    (ih : ∀ (a' m' b' : Nat) (d' : Array It) (w' : World), b' - a' < b - a → a' < m' → m' < b' → b' ≤ d.size → d'.size = d.size → SWK It.cells 2 w0 blk off d' w' → Srt key a' m' d' → Srt key m' b' d' →
      Calls Try.prog 63 #[.slice (some ⟨blk, off, none⟩) d.size cap, .int .i64 a', .int .i64 m', .int .i64 b', .func (.func g) #[] cb] w' fun e w'' => e = .returned (.tuple #[]) ∧ ∃ d'', Mrg key a' b' d' d'' ∧ Srt key a' b' d'' ∧ SWK It.cells 2 w0 blk off d'' w'') :
    Calls Try.prog 63 #[.slice (some ⟨blk, off, none⟩) d.size cap, .int .i64 a, .int .i64 m, .int .i64 b, .func (.func g) #[] cb] w fun e w' => e = .returned (.tuple #[]) ∧ ∃ d', Mrg key a b d d' ∧ Srt key a b d' ∧ SWK It.cells 2 w0 blk off d' w' := by
  have mixed : Try.prog.follows .mixedOrders = true := by kernel_rfl
  have S0 : Aside (SWK It.cells 2 w0 blk off d w) := S
  clear S
  have HC : Aside _ := hcmp
  have HCF := Lib.hid hcf
  have HS1 := Lib.hid s1
  have HS2 := Lib.hid s2
  have IH := Lib.hid ih
  clear hcmp hcf s1 s2 ih
  rw [hs] at hsz
  obtain ⟨u, hu⟩ : ∃ u : Int, u = (m : Int) - (a : Int) := ⟨_, rfl⟩
  have hw0 : IntKind.i64.wrap ((m : Int) - (a : Int)) = u := by rw [IntKind.wrap_i64] <;> omega
  have hu1 : ¬ u = 1 := by omega
  have hub : (u == 1) = false := by simpa using hu1
  obtain ⟨v, hv⟩ : ∃ v : Int, v = (b : Int) - (m : Int) := ⟨_, rfl⟩
  have hw1 : IntKind.i64.wrap ((b : Int) - (m : Int)) = v := by rw [IntKind.wrap_i64] <;> omega
  have hv1 : ¬ v = 1 := by omega
  have hvb : (v == 1) = false := by simpa using hv1
  obtain ⟨mid, hmid⟩ : ∃ q, q = (a + b) / 2 := ⟨_, rfl⟩
  have zmid : ((a : Int) + (b : Int)) / 2 = (mid : Int) := by omega
  have hmd1 : 2 * mid ≤ a + b := by omega
  have hmd2 : a + b ≤ 2 * mid + 1 := by omega
  obtain ⟨N, hN⟩ : ∃ q, q = mid + m := ⟨_, rfl⟩
  have zN : (mid : Int) + (m : Int) = (N : Int) := by omega
  have hN1 : N ≤ mid + m := by omega
  have hN2 : mid + m ≤ N := by omega
  obtain ⟨p, hp⟩ : ∃ q, q = N - 1 := ⟨_, rfl⟩
  have zp : IntKind.i64.wrap ((N : Int) - 1) = (p : Int) := by rw [IntKind.wrap_i64] <;> omega
  have hp1 : p ≤ N - 1 := by omega
  have hp2 : N ≤ p + 1 := by omega
  clear hu hv hmid hN hp
  go_enter Try.func63, Try.ntmps63
  by_cases hAB : mid < m
  · have hab : decide ((m : Int) > (mid : Int)) = true := decide_eq_true (by omega)
    have hab2 : (mid : Int) < (m : Int) := by omega
    have zlo : IntKind.i64.wrap ((N : Int) - (b : Int)) = ((N - b : Nat) : Int) := by rw [IntKind.wrap_i64] <;> omega
    go_wp2
    go_loopg [20, 21] (mid - (N - b)) (fun kx s20 s21 wr => ∃ (s r : Nat), s20 = .int .i64 s ∧ s21 = .int .i64 r ∧ (N - b) ≤ s ∧ s ≤ r ∧ r ≤ mid ∧ r - s ≤ kx ∧ Aside (SWK It.cells 2 w0 blk off d wr) ∧ Hid ((s = (N - b) ∨ ¬ key d[N - s]! < key d[s - 1]!) ∧ (r = mid ∨ key d[N - 1 - r]! < key d[r]!)))
    case atStart => exact ⟨(N - b), mid, by first | rfl | go_num | (congr 1; omega), rfl, Nat.le_refl _, by omega, Nat.le_refl _, Nat.le_refl _, S0, (show Hid _ from ⟨.inl rfl, .inl rfl⟩)⟩
    case round =>
      clear S0
      obtain ⟨s, r, rfl, rfl, hls, hsr, hrr, hkx, S1, HI⟩ := hrel
      by_cases hlt : s < r
      · have hltz : (s : Int) < (r : Int) := by omega
        obtain ⟨c, hc⟩ : ∃ c, c = (s + r) / 2 := ⟨_, rfl⟩
        have zc : ((s : Int) + (r : Int)) / 2 = (c : Int) := by omega
        have c1 : s ≤ c := by omega
        have c2 : c < r := by omega
        clear hc
        obtain ⟨pc, hpc⟩ : ∃ t, t = p - c := ⟨_, rfl⟩
        have zpc : IntKind.i64.wrap ((p : Int) - (c : Int)) = (pc : Int) := by rw [IntKind.wrap_i64] <;> omega
        have hpc2 : pc + c = p := by omega
        clear hpc
        go_wp2_with fail
        by_cases hk : key d[pc]! < key d[c]!
        · obtain ⟨iN118, hiN118⟩ : ∃ q, q = pc := ⟨_, rfl⟩
          obtain ⟨jN118, hjN118⟩ : ∃ q, q = c := ⟨_, rfl⟩
          have ea118 : ((pc : Int)).toNat = iN118 := by omega
          have pa118 : (0 : Int) ≤ (pc : Int) := by omega
          have ba118 : (pc : Int) < (d.size : Int) := by omega
          have ra118 : IntKind.i64.wrap ((pc : Int)) = (pc : Int) := by rw [IntKind.wrap_i64]; omega
          have ec118 : ((c : Int)).toNat = jN118 := by omega
          have pc118 : (0 : Int) ≤ (c : Int) := by omega
          have bc118 : (c : Int) < (d.size : Int) := by omega
          have rc118 : IntKind.i64.wrap ((c : Int)) = (c : Int) := by rw [IntKind.wrap_i64]; omega
          obtain ⟨oI118, hoI118⟩ : ∃ q, off + iN118 * 2 = q := ⟨_, rfl⟩
          obtain ⟨oJ118, hoJ118⟩ : ∃ q, off + jN118 * 2 = q := ⟨_, rfl⟩
          obtain ⟨xa118, hxa118⟩ : ∃ x, x = d[pc]!.1 := ⟨_, rfl⟩
          obtain ⟨xb118, hxb118⟩ : ∃ x, x = d[pc]!.2 := ⟨_, rfl⟩
          obtain ⟨ya118, hya118⟩ : ∃ x, x = d[c]!.1 := ⟨_, rfl⟩
          obtain ⟨yb118, hyb118⟩ : ∃ x, x = d[c]!.2 := ⟨_, rfl⟩
          obtain ⟨c118a, c118b⟩ := it_cells_grown S1.out R (by omega) (pc) (by omega)
          obtain ⟨c118c, c118d⟩ := it_cells_grown S1.out R (by omega) (c) (by omega)
          rw [← hxa118] at c118a
          rw [← hxb118] at c118b
          rw [← hya118] at c118c
          rw [← hyb118] at c118d
          simp only [← hiN118, hoI118] at c118a c118b
          simp only [← hjN118, hoJ118] at c118c c118d
          have hc118 := S1.out.cmp (HC.out w0) (by omega) (xa118, xb118) (ya118, yb118)
          dsimp only [It.cells] at hc118
          have hv118 : cf (xa118, xb118) (ya118, yb118) < 0 := by rw [hxa118, hxb118, hya118, hyb118]; exact (HCF.out _ _).2 hk
          have hd118 : decide (cf (xa118, xb118) (ya118, yb118) < 0) = true := decide_eq_true hv118
          clear hxa118 hxb118 hya118 hyb118 hiN118 hjN118
          go_wp2_with fail
          go_quiet_grown (first | (go_at_fn g; refine Calls.grown_of (hc118 _ _)))
          have S2 : Aside (SWK It.cells 2 w0 blk off d (grow (wr.drewN nq) osq)) := S1.out.grown nq osq
          clear c118a c118b c118c c118d hc118 S1
          generalize grow (wr.drewN nq) osq = w2 at S2 ⊢
          clear nq osq
          clear ea118 ec118 hoI118 hoJ118
          go_wp2
          go_roundg (c - s)
          case measure => omega
          case rel => exact ⟨s, c, rfl, rfl, hls, c1, by omega, Nat.le_refl _, S2, (show Hid _ from ⟨HI.out.1, .inr (by rw [show N - 1 - c = pc from by omega]; exact hk)⟩)⟩
        · obtain ⟨iN119, hiN119⟩ : ∃ q, q = pc := ⟨_, rfl⟩
          obtain ⟨jN119, hjN119⟩ : ∃ q, q = c := ⟨_, rfl⟩
          have ea119 : ((pc : Int)).toNat = iN119 := by omega
          have pa119 : (0 : Int) ≤ (pc : Int) := by omega
          have ba119 : (pc : Int) < (d.size : Int) := by omega
          have ra119 : IntKind.i64.wrap ((pc : Int)) = (pc : Int) := by rw [IntKind.wrap_i64]; omega
          have ec119 : ((c : Int)).toNat = jN119 := by omega
          have pc119 : (0 : Int) ≤ (c : Int) := by omega
          have bc119 : (c : Int) < (d.size : Int) := by omega
          have rc119 : IntKind.i64.wrap ((c : Int)) = (c : Int) := by rw [IntKind.wrap_i64]; omega
          obtain ⟨oI119, hoI119⟩ : ∃ q, off + iN119 * 2 = q := ⟨_, rfl⟩
          obtain ⟨oJ119, hoJ119⟩ : ∃ q, off + jN119 * 2 = q := ⟨_, rfl⟩
          obtain ⟨xa119, hxa119⟩ : ∃ x, x = d[pc]!.1 := ⟨_, rfl⟩
          obtain ⟨xb119, hxb119⟩ : ∃ x, x = d[pc]!.2 := ⟨_, rfl⟩
          obtain ⟨ya119, hya119⟩ : ∃ x, x = d[c]!.1 := ⟨_, rfl⟩
          obtain ⟨yb119, hyb119⟩ : ∃ x, x = d[c]!.2 := ⟨_, rfl⟩
          obtain ⟨c119a, c119b⟩ := it_cells_grown S1.out R (by omega) (pc) (by omega)
          obtain ⟨c119c, c119d⟩ := it_cells_grown S1.out R (by omega) (c) (by omega)
          rw [← hxa119] at c119a
          rw [← hxb119] at c119b
          rw [← hya119] at c119c
          rw [← hyb119] at c119d
          simp only [← hiN119, hoI119] at c119a c119b
          simp only [← hjN119, hoJ119] at c119c c119d
          have hc119 := S1.out.cmp (HC.out w0) (by omega) (xa119, xb119) (ya119, yb119)
          dsimp only [It.cells] at hc119
          have hv119 : ¬ cf (xa119, xb119) (ya119, yb119) < 0 := by rw [hxa119, hxb119, hya119, hyb119]; exact fun h => hk ((HCF.out _ _).1 h)
          have hd119 : decide (cf (xa119, xb119) (ya119, yb119) < 0) = false := decide_eq_false hv119
          clear hxa119 hxb119 hya119 hyb119 hiN119 hjN119
          go_wp2_with fail
          go_quiet_grown (first | (go_at_fn g; refine Calls.grown_of (hc119 _ _)))
          have S2 : Aside (SWK It.cells 2 w0 blk off d (grow (wr.drewN nq) osq)) := S1.out.grown nq osq
          clear c119a c119b c119c c119d hc119 S1
          generalize grow (wr.drewN nq) osq = w2 at S2 ⊢
          clear nq osq
          clear ea119 ec119 hoI119 hoJ119
          go_wp2
          go_roundg (r - (c + 1))
          case measure => omega
          case rel => exact ⟨c + 1, r, by go_num, rfl, by omega, by omega, hrr, Nat.le_refl _, S2, (show Hid _ from ⟨.inr (by rw [Nat.add_sub_cancel, show N - (c + 1) = pc from by omega]; exact hk), HI.out.2⟩)⟩
      · have hltz : ¬ (s : Int) < (r : Int) := by omega
        obtain rfl : r = s := by omega
        obtain ⟨e, he⟩ : ∃ e, e = N - r := ⟨_, rfl⟩
        have ze : IntKind.i64.wrap ((N : Int) - (r : Int)) = (e : Int) := by rw [IntKind.wrap_i64] <;> omega
        have her : e + r = N := by omega
        have hra : a ≤ r := by omega
        have hrm : r ≤ m := by omega
        have hme : m ≤ e := by omega
        have heb : e ≤ b := by omega
        have hmid2 : r + (e - m) = mid := by omega
        have hA : r = a ∨ e = b ∨ key d[r - 1]! ≤ key d[e]! := by
          rcases HI.out.1 with h | h
          · first | exact .inl h | exact .inr (.inl (by omega))
          · refine .inr (.inr ?_)
            rw [← he] at h
            omega
        have hB : r = m ∨ e = m ∨ key d[e - 1]! < key d[r]! := by
          rcases HI.out.2 with h | h
          · first | exact .inl h | exact .inr (.inl (by omega))
          · refine .inr (.inr ?_)
            rw [show e - 1 = N - 1 - r from by omega]
            exact h
        have HF : Hid (∀ d1, IsRot r m e d d1 → RotF key a r mid e b d d1) := fun d1 h => by
          have h := rot_facts (a := a) (b := b) hra hrm hme heb hb HS1.out HS2.out hA hB h
          rw [hmid2] at h
          exact h
        clear he hA hB HI hls
        by_cases q1 : r < m ∧ m < e
        · have f1 : (r : Int) < (m : Int) := by omega
          have f2 : (m : Int) < (e : Int) := by omega
          have K := rotate_T g cb blk off cap r m e d0 d w0 wr R hs S1.out q1.1 q1.2 (by omega) hsz
          clear S1
          go_wp2_with fail
          refine K.mono ?_
          rintro e1 w1 ⟨rfl, d1, hr1, S⟩
          have SD : Aside (SWK It.cells 2 w0 blk off d1 w1) := S
          have H1 := Lib.hid (HF.out d1 hr1)
          have hd1 : d1.size = d.size := hr1.1
          clear S K HF hr1
          by_cases q2 : a < r ∧ r < mid
          · have g1 : (a : Int) < (r : Int) := by omega
            have g2 : (r : Int) < (mid : Int) := by omega
            have K := IH.out a r mid d1 w1 (by omega) q2.1 q2.2 (by omega) (by omega) SD.out H1.out.2.1 H1.out.2.2.1
            clear SD
            go_wp2_with fail
            refine K.mono ?_
            rintro e2 w2 ⟨rfl, d2, m2, s2, S⟩
            have SD : Aside (SWK It.cells 2 w0 blk off d2 w2) := S
            have H2 := Lib.hid (And.intro m2 s2)
            have hd2 : d2.size = d.size := m2.stb.1.trans hd1
            clear S K m2 s2
            try (exfalso; omega)
            all_goals (
              have hs3 : Srt key mid e d2 := H1.out.2.2.2.1.of fun i i1 i2 => H2.out.1.out i (.inr i1)
              have hs4 : Srt key e b d2 := H1.out.2.2.2.2.1.of fun i i1 i2 => H2.out.1.out i (.inr (by omega))
              by_cases q5 : mid < e ∧ e < b
              · have k1 : (mid : Int) < (e : Int) := by omega
                have k2 : (e : Int) < (b : Int) := by omega
                have K := IH.out mid e b d2 w2 (by omega) q5.1 q5.2 (by omega) (by omega) SD.out hs3 hs4
                have hs3' := Lib.hid hs3
                clear SD hs3 hs4
                go_wp2_with fail
                refine K.mono ?_
                rintro e3 w3 ⟨rfl, d3, m3, s3, S⟩
                have SD : Aside (SWK It.cells 2 w0 blk off d3 w3) := S
                have H3 := Lib.hid (And.intro m3 s3)
                clear S K m3 s3
                try (exfalso; omega)
                all_goals (
                  go_wp2
                  go_end0
                  obtain ⟨x1, x2⟩ := merge_join (by omega) (by omega) H1.out.2.2.2.2.2 H2.out.1 H2.out.2 H3.out.1 H3.out.2
                  exact ⟨rfl, d3, H1.out.1.trans x1, x2, SD.out⟩)
              · have hsl : Srt key mid b d2 := by
                  by_cases q : mid < e
                  · rwa [show e = b from by omega] at hs3
                  · rwa [show e = mid from by omega] at hs4
                have H3 := Lib.hid hsl
                clear hs3 hs4 hsl
                by_cases q6 : mid < e
                · have k1 : (mid : Int) < (e : Int) := by omega
                  have k2 : ¬ (e : Int) < (b : Int) := by omega
                  try (exfalso; omega)
                  all_goals (
                    go_wp2
                    go_end0
                    obtain ⟨x1, x2⟩ := merge_join (by omega) (by omega) H1.out.2.2.2.2.2 H2.out.1 H2.out.2 (.refl _ _ _ _) H3.out
                    exact ⟨rfl, d2, H1.out.1.trans x1, x2, SD.out⟩)
                · have k1 : ¬ (mid : Int) < (e : Int) := by omega
                  try (exfalso; omega)
                  all_goals (
                    go_wp2
                    go_end0
                    obtain ⟨x1, x2⟩ := merge_join (by omega) (by omega) H1.out.2.2.2.2.2 H2.out.1 H2.out.2 (.refl _ _ _ _) H3.out
                    exact ⟨rfl, d2, H1.out.1.trans x1, x2, SD.out⟩))
          · have g1 : ¬ ((a : Int) < (r : Int) ∧ (r : Int) < (mid : Int)) := by omega
            obtain ⟨d2, hdd, H2, SE, hd2⟩ : ∃ d2, d2 = d1 ∧ Hid (Mrg key a mid d1 d2 ∧ Srt key a mid d2) ∧ Aside (SWK It.cells 2 w0 blk off d2 w1) ∧ d2.size = d.size := ⟨d1, rfl, ⟨.refl _ _ _ _, by
              by_cases q : a < r
              · have := H1.out.2.1
                rwa [show r = mid from by omega] at this
              · have := H1.out.2.2.1
                rwa [show r = a from by omega] at this⟩, SD, hd1⟩
            clear hdd SD
            have SD := SE
            clear SE
            by_cases q3 : a < r
            · have g2 : (a : Int) < (r : Int) := by omega
              have g3 : ¬ (r : Int) < (mid : Int) := by omega
              try (exfalso; omega)
              all_goals (
                have hs3 : Srt key mid e d2 := H1.out.2.2.2.1.of fun i i1 i2 => H2.out.1.out i (.inr i1)
                have hs4 : Srt key e b d2 := H1.out.2.2.2.2.1.of fun i i1 i2 => H2.out.1.out i (.inr (by omega))
                by_cases q5 : mid < e ∧ e < b
                · have k1 : (mid : Int) < (e : Int) := by omega
                  have k2 : (e : Int) < (b : Int) := by omega
                  have K := IH.out mid e b d2 w1 (by omega) q5.1 q5.2 (by omega) (by omega) SD.out hs3 hs4
                  have hs3' := Lib.hid hs3
                  clear SD hs3 hs4
                  go_wp2_with fail
                  refine K.mono ?_
                  rintro e3 w3 ⟨rfl, d3, m3, s3, S⟩
                  have SD : Aside (SWK It.cells 2 w0 blk off d3 w3) := S
                  have H3 := Lib.hid (And.intro m3 s3)
                  clear S K m3 s3
                  try (exfalso; omega)
                  all_goals (
                    go_wp2
                    go_end0
                    obtain ⟨x1, x2⟩ := merge_join (by omega) (by omega) H1.out.2.2.2.2.2 H2.out.1 H2.out.2 H3.out.1 H3.out.2
                    exact ⟨rfl, d3, H1.out.1.trans x1, x2, SD.out⟩)
                · have hsl : Srt key mid b d2 := by
                    by_cases q : mid < e
                    · rwa [show e = b from by omega] at hs3
                    · rwa [show e = mid from by omega] at hs4
                  have H3 := Lib.hid hsl
                  clear hs3 hs4 hsl
                  by_cases q6 : mid < e
                  · have k1 : (mid : Int) < (e : Int) := by omega
                    have k2 : ¬ (e : Int) < (b : Int) := by omega
                    try (exfalso; omega)
                    all_goals (
                      go_wp2
                      go_end0
                      obtain ⟨x1, x2⟩ := merge_join (by omega) (by omega) H1.out.2.2.2.2.2 H2.out.1 H2.out.2 (.refl _ _ _ _) H3.out
                      exact ⟨rfl, d2, H1.out.1.trans x1, x2, SD.out⟩)
                  · have k1 : ¬ (mid : Int) < (e : Int) := by omega
                    try (exfalso; omega)
                    all_goals (
                      go_wp2
                      go_end0
                      obtain ⟨x1, x2⟩ := merge_join (by omega) (by omega) H1.out.2.2.2.2.2 H2.out.1 H2.out.2 (.refl _ _ _ _) H3.out
                      exact ⟨rfl, d2, H1.out.1.trans x1, x2, SD.out⟩))
            · have g2 : ¬ (a : Int) < (r : Int) := by omega
              try (exfalso; omega)
              all_goals (
                have hs3 : Srt key mid e d2 := H1.out.2.2.2.1.of fun i i1 i2 => H2.out.1.out i (.inr i1)
                have hs4 : Srt key e b d2 := H1.out.2.2.2.2.1.of fun i i1 i2 => H2.out.1.out i (.inr (by omega))
                by_cases q5 : mid < e ∧ e < b
                · have k1 : (mid : Int) < (e : Int) := by omega
                  have k2 : (e : Int) < (b : Int) := by omega
                  have K := IH.out mid e b d2 w1 (by omega) q5.1 q5.2 (by omega) (by omega) SD.out hs3 hs4
                  have hs3' := Lib.hid hs3
                  clear SD hs3 hs4
                  go_wp2_with fail
                  refine K.mono ?_
                  rintro e3 w3 ⟨rfl, d3, m3, s3, S⟩
                  have SD : Aside (SWK It.cells 2 w0 blk off d3 w3) := S
                  have H3 := Lib.hid (And.intro m3 s3)
                  clear S K m3 s3
                  try (exfalso; omega)
                  all_goals (
                    go_wp2
                    go_end0
                    obtain ⟨x1, x2⟩ := merge_join (by omega) (by omega) H1.out.2.2.2.2.2 H2.out.1 H2.out.2 H3.out.1 H3.out.2
                    exact ⟨rfl, d3, H1.out.1.trans x1, x2, SD.out⟩)
                · have hsl : Srt key mid b d2 := by
                    by_cases q : mid < e
                    · rwa [show e = b from by omega] at hs3
                    · rwa [show e = mid from by omega] at hs4
                  have H3 := Lib.hid hsl
                  clear hs3 hs4 hsl
                  by_cases q6 : mid < e
                  · have k1 : (mid : Int) < (e : Int) := by omega
                    have k2 : ¬ (e : Int) < (b : Int) := by omega
                    try (exfalso; omega)
                    all_goals (
                      go_wp2
                      go_end0
                      obtain ⟨x1, x2⟩ := merge_join (by omega) (by omega) H1.out.2.2.2.2.2 H2.out.1 H2.out.2 (.refl _ _ _ _) H3.out
                      exact ⟨rfl, d2, H1.out.1.trans x1, x2, SD.out⟩)
                  · have k1 : ¬ (mid : Int) < (e : Int) := by omega
                    try (exfalso; omega)
                    all_goals (
                      go_wp2
                      go_end0
                      obtain ⟨x1, x2⟩ := merge_join (by omega) (by omega) H1.out.2.2.2.2.2 H2.out.1 H2.out.2 (.refl _ _ _ _) H3.out
                      exact ⟨rfl, d2, H1.out.1.trans x1, x2, SD.out⟩))
        · have f1 : ¬ ((r : Int) < (m : Int) ∧ (m : Int) < (e : Int)) := by omega
          obtain ⟨d1, hdd, H1, SD, hd1⟩ : ∃ d1, d1 = d ∧ Hid (RotF key a r mid e b d d1) ∧ Aside (SWK It.cells 2 w0 blk off d1 wr) ∧ d1.size = d.size := ⟨d, rfl, HF.out d (by
            by_cases q : r = m
            · subst q; exact IsRot.nil' d
            · obtain rfl : e = m := by omega
              exact IsRot.nil d), S1, rfl⟩
          clear hdd HF S1
          by_cases q0 : r < m
          · have f2 : (r : Int) < (m : Int) := by omega
            have f3 : ¬ (m : Int) < (e : Int) := by omega
            by_cases q2 : a < r ∧ r < mid
            · have g1 : (a : Int) < (r : Int) := by omega
              have g2 : (r : Int) < (mid : Int) := by omega
              have K := IH.out a r mid d1 wr (by omega) q2.1 q2.2 (by omega) (by omega) SD.out H1.out.2.1 H1.out.2.2.1
              clear SD
              go_wp2_with fail
              refine K.mono ?_
              rintro e2 w2 ⟨rfl, d2, m2, s2, S⟩
              have SD : Aside (SWK It.cells 2 w0 blk off d2 w2) := S
              have H2 := Lib.hid (And.intro m2 s2)
              have hd2 : d2.size = d.size := m2.stb.1.trans hd1
              clear S K m2 s2
              try (exfalso; omega)
              all_goals (
                have hs3 : Srt key mid e d2 := H1.out.2.2.2.1.of fun i i1 i2 => H2.out.1.out i (.inr i1)
                have hs4 : Srt key e b d2 := H1.out.2.2.2.2.1.of fun i i1 i2 => H2.out.1.out i (.inr (by omega))
                by_cases q5 : mid < e ∧ e < b
                · have k1 : (mid : Int) < (e : Int) := by omega
                  have k2 : (e : Int) < (b : Int) := by omega
                  have K := IH.out mid e b d2 w2 (by omega) q5.1 q5.2 (by omega) (by omega) SD.out hs3 hs4
                  have hs3' := Lib.hid hs3
                  clear SD hs3 hs4
                  go_wp2_with fail
                  refine K.mono ?_
                  rintro e3 w3 ⟨rfl, d3, m3, s3, S⟩
                  have SD : Aside (SWK It.cells 2 w0 blk off d3 w3) := S
                  have H3 := Lib.hid (And.intro m3 s3)
                  clear S K m3 s3
                  try (exfalso; omega)
                  all_goals (
                    go_wp2
                    go_end0
                    obtain ⟨x1, x2⟩ := merge_join (by omega) (by omega) H1.out.2.2.2.2.2 H2.out.1 H2.out.2 H3.out.1 H3.out.2
                    exact ⟨rfl, d3, H1.out.1.trans x1, x2, SD.out⟩)
                · have hsl : Srt key mid b d2 := by
                    by_cases q : mid < e
                    · rwa [show e = b from by omega] at hs3
                    · rwa [show e = mid from by omega] at hs4
                  have H3 := Lib.hid hsl
                  clear hs3 hs4 hsl
                  by_cases q6 : mid < e
                  · have k1 : (mid : Int) < (e : Int) := by omega
                    have k2 : ¬ (e : Int) < (b : Int) := by omega
                    try (exfalso; omega)
                    all_goals (
                      go_wp2
                      go_end0
                      obtain ⟨x1, x2⟩ := merge_join (by omega) (by omega) H1.out.2.2.2.2.2 H2.out.1 H2.out.2 (.refl _ _ _ _) H3.out
                      exact ⟨rfl, d2, H1.out.1.trans x1, x2, SD.out⟩)
                  · have k1 : ¬ (mid : Int) < (e : Int) := by omega
                    try (exfalso; omega)
                    all_goals (
                      go_wp2
                      go_end0
                      obtain ⟨x1, x2⟩ := merge_join (by omega) (by omega) H1.out.2.2.2.2.2 H2.out.1 H2.out.2 (.refl _ _ _ _) H3.out
                      exact ⟨rfl, d2, H1.out.1.trans x1, x2, SD.out⟩))
            · have g1 : ¬ ((a : Int) < (r : Int) ∧ (r : Int) < (mid : Int)) := by omega
              obtain ⟨d2, hdd, H2, SE, hd2⟩ : ∃ d2, d2 = d1 ∧ Hid (Mrg key a mid d1 d2 ∧ Srt key a mid d2) ∧ Aside (SWK It.cells 2 w0 blk off d2 wr) ∧ d2.size = d.size := ⟨d1, rfl, ⟨.refl _ _ _ _, by
                by_cases q : a < r
                · have := H1.out.2.1
                  rwa [show r = mid from by omega] at this
                · have := H1.out.2.2.1
                  rwa [show r = a from by omega] at this⟩, SD, hd1⟩
              clear hdd SD
              have SD := SE
              clear SE
              by_cases q3 : a < r
              · have g2 : (a : Int) < (r : Int) := by omega
                have g3 : ¬ (r : Int) < (mid : Int) := by omega
                try (exfalso; omega)
                all_goals (
                  have hs3 : Srt key mid e d2 := H1.out.2.2.2.1.of fun i i1 i2 => H2.out.1.out i (.inr i1)
                  have hs4 : Srt key e b d2 := H1.out.2.2.2.2.1.of fun i i1 i2 => H2.out.1.out i (.inr (by omega))
                  by_cases q5 : mid < e ∧ e < b
                  · have k1 : (mid : Int) < (e : Int) := by omega
                    have k2 : (e : Int) < (b : Int) := by omega
                    have K := IH.out mid e b d2 wr (by omega) q5.1 q5.2 (by omega) (by omega) SD.out hs3 hs4
                    have hs3' := Lib.hid hs3
                    clear SD hs3 hs4
                    go_wp2_with fail
                    refine K.mono ?_
                    rintro e3 w3 ⟨rfl, d3, m3, s3, S⟩
                    have SD : Aside (SWK It.cells 2 w0 blk off d3 w3) := S
                    have H3 := Lib.hid (And.intro m3 s3)
                    clear S K m3 s3
                    try (exfalso; omega)
                    all_goals (
                      go_wp2
                      go_end0
                      obtain ⟨x1, x2⟩ := merge_join (by omega) (by omega) H1.out.2.2.2.2.2 H2.out.1 H2.out.2 H3.out.1 H3.out.2
                      exact ⟨rfl, d3, H1.out.1.trans x1, x2, SD.out⟩)
                  · have hsl : Srt key mid b d2 := by
                      by_cases q : mid < e
                      · rwa [show e = b from by omega] at hs3
                      · rwa [show e = mid from by omega] at hs4
                    have H3 := Lib.hid hsl
                    clear hs3 hs4 hsl
                    by_cases q6 : mid < e
                    · have k1 : (mid : Int) < (e : Int) := by omega
                      have k2 : ¬ (e : Int) < (b : Int) := by omega
                      try (exfalso; omega)
                      all_goals (
                        go_wp2
                        go_end0
                        obtain ⟨x1, x2⟩ := merge_join (by omega) (by omega) H1.out.2.2.2.2.2 H2.out.1 H2.out.2 (.refl _ _ _ _) H3.out
                        exact ⟨rfl, d2, H1.out.1.trans x1, x2, SD.out⟩)
                    · have k1 : ¬ (mid : Int) < (e : Int) := by omega
                      try (exfalso; omega)
                      all_goals (
                        go_wp2
                        go_end0
                        obtain ⟨x1, x2⟩ := merge_join (by omega) (by omega) H1.out.2.2.2.2.2 H2.out.1 H2.out.2 (.refl _ _ _ _) H3.out
                        exact ⟨rfl, d2, H1.out.1.trans x1, x2, SD.out⟩))
              · have g2 : ¬ (a : Int) < (r : Int) := by omega
                try (exfalso; omega)
                all_goals (
                  have hs3 : Srt key mid e d2 := H1.out.2.2.2.1.of fun i i1 i2 => H2.out.1.out i (.inr i1)
                  have hs4 : Srt key e b d2 := H1.out.2.2.2.2.1.of fun i i1 i2 => H2.out.1.out i (.inr (by omega))
                  by_cases q5 : mid < e ∧ e < b
                  · have k1 : (mid : Int) < (e : Int) := by omega
                    have k2 : (e : Int) < (b : Int) := by omega
                    have K := IH.out mid e b d2 wr (by omega) q5.1 q5.2 (by omega) (by omega) SD.out hs3 hs4
                    have hs3' := Lib.hid hs3
                    clear SD hs3 hs4
                    go_wp2_with fail
                    refine K.mono ?_
                    rintro e3 w3 ⟨rfl, d3, m3, s3, S⟩
                    have SD : Aside (SWK It.cells 2 w0 blk off d3 w3) := S
                    have H3 := Lib.hid (And.intro m3 s3)
                    clear S K m3 s3
                    try (exfalso; omega)
                    all_goals (
                      go_wp2
                      go_end0
                      obtain ⟨x1, x2⟩ := merge_join (by omega) (by omega) H1.out.2.2.2.2.2 H2.out.1 H2.out.2 H3.out.1 H3.out.2
                      exact ⟨rfl, d3, H1.out.1.trans x1, x2, SD.out⟩)
                  · have hsl : Srt key mid b d2 := by
                      by_cases q : mid < e
                      · rwa [show e = b from by omega] at hs3
                      · rwa [show e = mid from by omega] at hs4
                    have H3 := Lib.hid hsl
                    clear hs3 hs4 hsl
                    by_cases q6 : mid < e
                    · have k1 : (mid : Int) < (e : Int) := by omega
                      have k2 : ¬ (e : Int) < (b : Int) := by omega
                      try (exfalso; omega)
                      all_goals (
                        go_wp2
                        go_end0
                        obtain ⟨x1, x2⟩ := merge_join (by omega) (by omega) H1.out.2.2.2.2.2 H2.out.1 H2.out.2 (.refl _ _ _ _) H3.out
                        exact ⟨rfl, d2, H1.out.1.trans x1, x2, SD.out⟩)
                    · have k1 : ¬ (mid : Int) < (e : Int) := by omega
                      try (exfalso; omega)
                      all_goals (
                        go_wp2
                        go_end0
                        obtain ⟨x1, x2⟩ := merge_join (by omega) (by omega) H1.out.2.2.2.2.2 H2.out.1 H2.out.2 (.refl _ _ _ _) H3.out
                        exact ⟨rfl, d2, H1.out.1.trans x1, x2, SD.out⟩))
          · have f2 : ¬ (r : Int) < (m : Int) := by omega
            by_cases q2 : a < r ∧ r < mid
            · have g1 : (a : Int) < (r : Int) := by omega
              have g2 : (r : Int) < (mid : Int) := by omega
              have K := IH.out a r mid d1 wr (by omega) q2.1 q2.2 (by omega) (by omega) SD.out H1.out.2.1 H1.out.2.2.1
              clear SD
              go_wp2_with fail
              refine K.mono ?_
              rintro e2 w2 ⟨rfl, d2, m2, s2, S⟩
              have SD : Aside (SWK It.cells 2 w0 blk off d2 w2) := S
              have H2 := Lib.hid (And.intro m2 s2)
              have hd2 : d2.size = d.size := m2.stb.1.trans hd1
              clear S K m2 s2
              try (exfalso; omega)
              all_goals (
                have hs3 : Srt key mid e d2 := H1.out.2.2.2.1.of fun i i1 i2 => H2.out.1.out i (.inr i1)
                have hs4 : Srt key e b d2 := H1.out.2.2.2.2.1.of fun i i1 i2 => H2.out.1.out i (.inr (by omega))
                by_cases q5 : mid < e ∧ e < b
                · have k1 : (mid : Int) < (e : Int) := by omega
                  have k2 : (e : Int) < (b : Int) := by omega
                  have K := IH.out mid e b d2 w2 (by omega) q5.1 q5.2 (by omega) (by omega) SD.out hs3 hs4
                  have hs3' := Lib.hid hs3
                  clear SD hs3 hs4
                  go_wp2_with fail
                  refine K.mono ?_
                  rintro e3 w3 ⟨rfl, d3, m3, s3, S⟩
                  have SD : Aside (SWK It.cells 2 w0 blk off d3 w3) := S
                  have H3 := Lib.hid (And.intro m3 s3)
                  clear S K m3 s3
                  try (exfalso; omega)
                  all_goals (
                    go_wp2
                    go_end0
                    obtain ⟨x1, x2⟩ := merge_join (by omega) (by omega) H1.out.2.2.2.2.2 H2.out.1 H2.out.2 H3.out.1 H3.out.2
                    exact ⟨rfl, d3, H1.out.1.trans x1, x2, SD.out⟩)
                · have hsl : Srt key mid b d2 := by
                    by_cases q : mid < e
                    · rwa [show e = b from by omega] at hs3
                    · rwa [show e = mid from by omega] at hs4
                  have H3 := Lib.hid hsl
                  clear hs3 hs4 hsl
                  by_cases q6 : mid < e
                  · have k1 : (mid : Int) < (e : Int) := by omega
                    have k2 : ¬ (e : Int) < (b : Int) := by omega
                    try (exfalso; omega)
                    all_goals (
                      go_wp2
                      go_end0
                      obtain ⟨x1, x2⟩ := merge_join (by omega) (by omega) H1.out.2.2.2.2.2 H2.out.1 H2.out.2 (.refl _ _ _ _) H3.out
                      exact ⟨rfl, d2, H1.out.1.trans x1, x2, SD.out⟩)
                  · have k1 : ¬ (mid : Int) < (e : Int) := by omega
                    try (exfalso; omega)
                    all_goals (
                      go_wp2
                      go_end0
                      obtain ⟨x1, x2⟩ := merge_join (by omega) (by omega) H1.out.2.2.2.2.2 H2.out.1 H2.out.2 (.refl _ _ _ _) H3.out
                      exact ⟨rfl, d2, H1.out.1.trans x1, x2, SD.out⟩))
            · have g1 : ¬ ((a : Int) < (r : Int) ∧ (r : Int) < (mid : Int)) := by omega
              obtain ⟨d2, hdd, H2, SE, hd2⟩ : ∃ d2, d2 = d1 ∧ Hid (Mrg key a mid d1 d2 ∧ Srt key a mid d2) ∧ Aside (SWK It.cells 2 w0 blk off d2 wr) ∧ d2.size = d.size := ⟨d1, rfl, ⟨.refl _ _ _ _, by
                by_cases q : a < r
                · have := H1.out.2.1
                  rwa [show r = mid from by omega] at this
                · have := H1.out.2.2.1
                  rwa [show r = a from by omega] at this⟩, SD, hd1⟩
              clear hdd SD
              have SD := SE
              clear SE
              by_cases q3 : a < r
              · have g2 : (a : Int) < (r : Int) := by omega
                have g3 : ¬ (r : Int) < (mid : Int) := by omega
                try (exfalso; omega)
                all_goals (
                  have hs3 : Srt key mid e d2 := H1.out.2.2.2.1.of fun i i1 i2 => H2.out.1.out i (.inr i1)
                  have hs4 : Srt key e b d2 := H1.out.2.2.2.2.1.of fun i i1 i2 => H2.out.1.out i (.inr (by omega))
                  by_cases q5 : mid < e ∧ e < b
                  · have k1 : (mid : Int) < (e : Int) := by omega
                    have k2 : (e : Int) < (b : Int) := by omega
                    have K := IH.out mid e b d2 wr (by omega) q5.1 q5.2 (by omega) (by omega) SD.out hs3 hs4
                    have hs3' := Lib.hid hs3
                    clear SD hs3 hs4
                    go_wp2_with fail
                    refine K.mono ?_
                    rintro e3 w3 ⟨rfl, d3, m3, s3, S⟩
                    have SD : Aside (SWK It.cells 2 w0 blk off d3 w3) := S
                    have H3 := Lib.hid (And.intro m3 s3)
                    clear S K m3 s3
                    try (exfalso; omega)
                    all_goals (
                      go_wp2
                      go_end0
                      obtain ⟨x1, x2⟩ := merge_join (by omega) (by omega) H1.out.2.2.2.2.2 H2.out.1 H2.out.2 H3.out.1 H3.out.2
                      exact ⟨rfl, d3, H1.out.1.trans x1, x2, SD.out⟩)
                  · have hsl : Srt key mid b d2 := by
                      by_cases q : mid < e
                      · rwa [show e = b from by omega] at hs3
                      · rwa [show e = mid from by omega] at hs4
                    have H3 := Lib.hid hsl
                    clear hs3 hs4 hsl
                    by_cases q6 : mid < e
                    · have k1 : (mid : Int) < (e : Int) := by omega
                      have k2 : ¬ (e : Int) < (b : Int) := by omega
                      try (exfalso; omega)
                      all_goals (
                        go_wp2
                        go_end0
                        obtain ⟨x1, x2⟩ := merge_join (by omega) (by omega) H1.out.2.2.2.2.2 H2.out.1 H2.out.2 (.refl _ _ _ _) H3.out
                        exact ⟨rfl, d2, H1.out.1.trans x1, x2, SD.out⟩)
                    · have k1 : ¬ (mid : Int) < (e : Int) := by omega
                      try (exfalso; omega)
                      all_goals (
                        go_wp2
                        go_end0
                        obtain ⟨x1, x2⟩ := merge_join (by omega) (by omega) H1.out.2.2.2.2.2 H2.out.1 H2.out.2 (.refl _ _ _ _) H3.out
                        exact ⟨rfl, d2, H1.out.1.trans x1, x2, SD.out⟩))
              · have g2 : ¬ (a : Int) < (r : Int) := by omega
                try (exfalso; omega)
                all_goals (
                  have hs3 : Srt key mid e d2 := H1.out.2.2.2.1.of fun i i1 i2 => H2.out.1.out i (.inr i1)
                  have hs4 : Srt key e b d2 := H1.out.2.2.2.2.1.of fun i i1 i2 => H2.out.1.out i (.inr (by omega))
                  by_cases q5 : mid < e ∧ e < b
                  · have k1 : (mid : Int) < (e : Int) := by omega
                    have k2 : (e : Int) < (b : Int) := by omega
                    have K := IH.out mid e b d2 wr (by omega) q5.1 q5.2 (by omega) (by omega) SD.out hs3 hs4
                    have hs3' := Lib.hid hs3
                    clear SD hs3 hs4
                    go_wp2_with fail
                    refine K.mono ?_
                    rintro e3 w3 ⟨rfl, d3, m3, s3, S⟩
                    have SD : Aside (SWK It.cells 2 w0 blk off d3 w3) := S
                    have H3 := Lib.hid (And.intro m3 s3)
                    clear S K m3 s3
                    try (exfalso; omega)
                    all_goals (
                      go_wp2
                      go_end0
                      obtain ⟨x1, x2⟩ := merge_join (by omega) (by omega) H1.out.2.2.2.2.2 H2.out.1 H2.out.2 H3.out.1 H3.out.2
                      exact ⟨rfl, d3, H1.out.1.trans x1, x2, SD.out⟩)
                  · have hsl : Srt key mid b d2 := by
                      by_cases q : mid < e
                      · rwa [show e = b from by omega] at hs3
                      · rwa [show e = mid from by omega] at hs4
                    have H3 := Lib.hid hsl
                    clear hs3 hs4 hsl
                    by_cases q6 : mid < e
                    · have k1 : (mid : Int) < (e : Int) := by omega
                      have k2 : ¬ (e : Int) < (b : Int) := by omega
                      try (exfalso; omega)
                      all_goals (
                        go_wp2
                        go_end0
                        obtain ⟨x1, x2⟩ := merge_join (by omega) (by omega) H1.out.2.2.2.2.2 H2.out.1 H2.out.2 (.refl _ _ _ _) H3.out
                        exact ⟨rfl, d2, H1.out.1.trans x1, x2, SD.out⟩)
                    · have k1 : ¬ (mid : Int) < (e : Int) := by omega
                      try (exfalso; omega)
                      all_goals (
                        go_wp2
                        go_end0
                        obtain ⟨x1, x2⟩ := merge_join (by omega) (by omega) H1.out.2.2.2.2.2 H2.out.1 H2.out.2 (.refl _ _ _ _) H3.out
                        exact ⟨rfl, d2, H1.out.1.trans x1, x2, SD.out⟩))
  · have hab : decide ((m : Int) > (mid : Int)) = false := decide_eq_false (by omega)
    have hab2 : ¬ (mid : Int) < (m : Int) := by omega
    go_wp2
    go_loopg [20, 21] (m - a) (fun kx s20 s21 wr => ∃ (s r : Nat), s20 = .int .i64 s ∧ s21 = .int .i64 r ∧ a ≤ s ∧ s ≤ r ∧ r ≤ m ∧ r - s ≤ kx ∧ Aside (SWK It.cells 2 w0 blk off d wr) ∧ Hid ((s = a ∨ ¬ key d[N - s]! < key d[s - 1]!) ∧ (r = m ∨ key d[N - 1 - r]! < key d[r]!)))
    case atStart => exact ⟨a, m, rfl, rfl, Nat.le_refl _, by omega, Nat.le_refl _, Nat.le_refl _, S0, (show Hid _ from ⟨.inl rfl, .inl rfl⟩)⟩
    case round =>
      clear S0
      obtain ⟨s, r, rfl, rfl, hls, hsr, hrr, hkx, S1, HI⟩ := hrel
      by_cases hlt : s < r
      · have hltz : (s : Int) < (r : Int) := by omega
        obtain ⟨c, hc⟩ : ∃ c, c = (s + r) / 2 := ⟨_, rfl⟩
        have zc : ((s : Int) + (r : Int)) / 2 = (c : Int) := by omega
        have c1 : s ≤ c := by omega
        have c2 : c < r := by omega
        clear hc
        obtain ⟨pc, hpc⟩ : ∃ t, t = p - c := ⟨_, rfl⟩
        have zpc : IntKind.i64.wrap ((p : Int) - (c : Int)) = (pc : Int) := by rw [IntKind.wrap_i64] <;> omega
        have hpc2 : pc + c = p := by omega
        clear hpc
        go_wp2_with fail
        by_cases hk : key d[pc]! < key d[c]!
        · obtain ⟨iN120, hiN120⟩ : ∃ q, q = pc := ⟨_, rfl⟩
          obtain ⟨jN120, hjN120⟩ : ∃ q, q = c := ⟨_, rfl⟩
          have ea120 : ((pc : Int)).toNat = iN120 := by omega
          have pa120 : (0 : Int) ≤ (pc : Int) := by omega
          have ba120 : (pc : Int) < (d.size : Int) := by omega
          have ra120 : IntKind.i64.wrap ((pc : Int)) = (pc : Int) := by rw [IntKind.wrap_i64]; omega
          have ec120 : ((c : Int)).toNat = jN120 := by omega
          have pc120 : (0 : Int) ≤ (c : Int) := by omega
          have bc120 : (c : Int) < (d.size : Int) := by omega
          have rc120 : IntKind.i64.wrap ((c : Int)) = (c : Int) := by rw [IntKind.wrap_i64]; omega
          obtain ⟨oI120, hoI120⟩ : ∃ q, off + iN120 * 2 = q := ⟨_, rfl⟩
          obtain ⟨oJ120, hoJ120⟩ : ∃ q, off + jN120 * 2 = q := ⟨_, rfl⟩
          obtain ⟨xa120, hxa120⟩ : ∃ x, x = d[pc]!.1 := ⟨_, rfl⟩
          obtain ⟨xb120, hxb120⟩ : ∃ x, x = d[pc]!.2 := ⟨_, rfl⟩
          obtain ⟨ya120, hya120⟩ : ∃ x, x = d[c]!.1 := ⟨_, rfl⟩
          obtain ⟨yb120, hyb120⟩ : ∃ x, x = d[c]!.2 := ⟨_, rfl⟩
          obtain ⟨c120a, c120b⟩ := it_cells_grown S1.out R (by omega) (pc) (by omega)
          obtain ⟨c120c, c120d⟩ := it_cells_grown S1.out R (by omega) (c) (by omega)
          rw [← hxa120] at c120a
          rw [← hxb120] at c120b
          rw [← hya120] at c120c
          rw [← hyb120] at c120d
          simp only [← hiN120, hoI120] at c120a c120b
          simp only [← hjN120, hoJ120] at c120c c120d
          have hc120 := S1.out.cmp (HC.out w0) (by omega) (xa120, xb120) (ya120, yb120)
          dsimp only [It.cells] at hc120
          have hv120 : cf (xa120, xb120) (ya120, yb120) < 0 := by rw [hxa120, hxb120, hya120, hyb120]; exact (HCF.out _ _).2 hk
          have hd120 : decide (cf (xa120, xb120) (ya120, yb120) < 0) = true := decide_eq_true hv120
          clear hxa120 hxb120 hya120 hyb120 hiN120 hjN120
          go_wp2_with fail
          go_quiet_grown (first | (go_at_fn g; refine Calls.grown_of (hc120 _ _)))
          have S2 : Aside (SWK It.cells 2 w0 blk off d (grow (wr.drewN nq) osq)) := S1.out.grown nq osq
          clear c120a c120b c120c c120d hc120 S1
          generalize grow (wr.drewN nq) osq = w2 at S2 ⊢
          clear nq osq
          clear ea120 ec120 hoI120 hoJ120
          go_wp2
          go_roundg (c - s)
          case measure => omega
          case rel => exact ⟨s, c, rfl, rfl, hls, c1, by omega, Nat.le_refl _, S2, (show Hid _ from ⟨HI.out.1, .inr (by rw [show N - 1 - c = pc from by omega]; exact hk)⟩)⟩
        · obtain ⟨iN121, hiN121⟩ : ∃ q, q = pc := ⟨_, rfl⟩
          obtain ⟨jN121, hjN121⟩ : ∃ q, q = c := ⟨_, rfl⟩
          have ea121 : ((pc : Int)).toNat = iN121 := by omega
          have pa121 : (0 : Int) ≤ (pc : Int) := by omega
          have ba121 : (pc : Int) < (d.size : Int) := by omega
          have ra121 : IntKind.i64.wrap ((pc : Int)) = (pc : Int) := by rw [IntKind.wrap_i64]; omega
          have ec121 : ((c : Int)).toNat = jN121 := by omega
          have pc121 : (0 : Int) ≤ (c : Int) := by omega
          have bc121 : (c : Int) < (d.size : Int) := by omega
          have rc121 : IntKind.i64.wrap ((c : Int)) = (c : Int) := by rw [IntKind.wrap_i64]; omega
          obtain ⟨oI121, hoI121⟩ : ∃ q, off + iN121 * 2 = q := ⟨_, rfl⟩
          obtain ⟨oJ121, hoJ121⟩ : ∃ q, off + jN121 * 2 = q := ⟨_, rfl⟩
          obtain ⟨xa121, hxa121⟩ : ∃ x, x = d[pc]!.1 := ⟨_, rfl⟩
          obtain ⟨xb121, hxb121⟩ : ∃ x, x = d[pc]!.2 := ⟨_, rfl⟩
          obtain ⟨ya121, hya121⟩ : ∃ x, x = d[c]!.1 := ⟨_, rfl⟩
          obtain ⟨yb121, hyb121⟩ : ∃ x, x = d[c]!.2 := ⟨_, rfl⟩
          obtain ⟨c121a, c121b⟩ := it_cells_grown S1.out R (by omega) (pc) (by omega)
          obtain ⟨c121c, c121d⟩ := it_cells_grown S1.out R (by omega) (c) (by omega)
          rw [← hxa121] at c121a
          rw [← hxb121] at c121b
          rw [← hya121] at c121c
          rw [← hyb121] at c121d
          simp only [← hiN121, hoI121] at c121a c121b
          simp only [← hjN121, hoJ121] at c121c c121d
          have hc121 := S1.out.cmp (HC.out w0) (by omega) (xa121, xb121) (ya121, yb121)
          dsimp only [It.cells] at hc121
          have hv121 : ¬ cf (xa121, xb121) (ya121, yb121) < 0 := by rw [hxa121, hxb121, hya121, hyb121]; exact fun h => hk ((HCF.out _ _).1 h)
          have hd121 : decide (cf (xa121, xb121) (ya121, yb121) < 0) = false := decide_eq_false hv121
          clear hxa121 hxb121 hya121 hyb121 hiN121 hjN121
          go_wp2_with fail
          go_quiet_grown (first | (go_at_fn g; refine Calls.grown_of (hc121 _ _)))
          have S2 : Aside (SWK It.cells 2 w0 blk off d (grow (wr.drewN nq) osq)) := S1.out.grown nq osq
          clear c121a c121b c121c c121d hc121 S1
          generalize grow (wr.drewN nq) osq = w2 at S2 ⊢
          clear nq osq
          clear ea121 ec121 hoI121 hoJ121
          go_wp2
          go_roundg (r - (c + 1))
          case measure => omega
          case rel => exact ⟨c + 1, r, by go_num, rfl, by omega, by omega, hrr, Nat.le_refl _, S2, (show Hid _ from ⟨.inr (by rw [Nat.add_sub_cancel, show N - (c + 1) = pc from by omega]; exact hk), HI.out.2⟩)⟩
      · have hltz : ¬ (s : Int) < (r : Int) := by omega
        obtain rfl : r = s := by omega
        obtain ⟨e, he⟩ : ∃ e, e = N - r := ⟨_, rfl⟩
        have ze : IntKind.i64.wrap ((N : Int) - (r : Int)) = (e : Int) := by rw [IntKind.wrap_i64] <;> omega
        have her : e + r = N := by omega
        have hra : a ≤ r := by omega
        have hrm : r ≤ m := by omega
        have hme : m ≤ e := by omega
        have heb : e ≤ b := by omega
        have hmid2 : r + (e - m) = mid := by omega
        have hA : r = a ∨ e = b ∨ key d[r - 1]! ≤ key d[e]! := by
          rcases HI.out.1 with h | h
          · first | exact .inl h | exact .inr (.inl (by omega))
          · refine .inr (.inr ?_)
            rw [← he] at h
            omega
        have hB : r = m ∨ e = m ∨ key d[e - 1]! < key d[r]! := by
          rcases HI.out.2 with h | h
          · first | exact .inl h | exact .inr (.inl (by omega))
          · refine .inr (.inr ?_)
            rw [show e - 1 = N - 1 - r from by omega]
            exact h
        have HF : Hid (∀ d1, IsRot r m e d d1 → RotF key a r mid e b d d1) := fun d1 h => by
          have h := rot_facts (a := a) (b := b) hra hrm hme heb hb HS1.out HS2.out hA hB h
          rw [hmid2] at h
          exact h
        clear he hA hB HI hls
        by_cases q1 : r < m ∧ m < e
        · have f1 : (r : Int) < (m : Int) := by omega
          have f2 : (m : Int) < (e : Int) := by omega
          have K := rotate_T g cb blk off cap r m e d0 d w0 wr R hs S1.out q1.1 q1.2 (by omega) hsz
          clear S1
          go_wp2_with fail
          refine K.mono ?_
          rintro e1 w1 ⟨rfl, d1, hr1, S⟩
          have SD : Aside (SWK It.cells 2 w0 blk off d1 w1) := S
          have H1 := Lib.hid (HF.out d1 hr1)
          have hd1 : d1.size = d.size := hr1.1
          clear S K HF hr1
          by_cases q2 : a < r ∧ r < mid
          · have g1 : (a : Int) < (r : Int) := by omega
            have g2 : (r : Int) < (mid : Int) := by omega
            have K := IH.out a r mid d1 w1 (by omega) q2.1 q2.2 (by omega) (by omega) SD.out H1.out.2.1 H1.out.2.2.1
            clear SD
            go_wp2_with fail
            refine K.mono ?_
            rintro e2 w2 ⟨rfl, d2, m2, s2, S⟩
            have SD : Aside (SWK It.cells 2 w0 blk off d2 w2) := S
            have H2 := Lib.hid (And.intro m2 s2)
            have hd2 : d2.size = d.size := m2.stb.1.trans hd1
            clear S K m2 s2
            try (exfalso; omega)
            all_goals (
              have hs3 : Srt key mid e d2 := H1.out.2.2.2.1.of fun i i1 i2 => H2.out.1.out i (.inr i1)
              have hs4 : Srt key e b d2 := H1.out.2.2.2.2.1.of fun i i1 i2 => H2.out.1.out i (.inr (by omega))
              by_cases q5 : mid < e ∧ e < b
              · have k1 : (mid : Int) < (e : Int) := by omega
                have k2 : (e : Int) < (b : Int) := by omega
                have K := IH.out mid e b d2 w2 (by omega) q5.1 q5.2 (by omega) (by omega) SD.out hs3 hs4
                have hs3' := Lib.hid hs3
                clear SD hs3 hs4
                go_wp2_with fail
                refine K.mono ?_
                rintro e3 w3 ⟨rfl, d3, m3, s3, S⟩
                have SD : Aside (SWK It.cells 2 w0 blk off d3 w3) := S
                have H3 := Lib.hid (And.intro m3 s3)
                clear S K m3 s3
                try (exfalso; omega)
                all_goals (
                  go_wp2
                  go_end0
                  obtain ⟨x1, x2⟩ := merge_join (by omega) (by omega) H1.out.2.2.2.2.2 H2.out.1 H2.out.2 H3.out.1 H3.out.2
                  exact ⟨rfl, d3, H1.out.1.trans x1, x2, SD.out⟩)
              · have hsl : Srt key mid b d2 := by
                  by_cases q : mid < e
                  · rwa [show e = b from by omega] at hs3
                  · rwa [show e = mid from by omega] at hs4
                have H3 := Lib.hid hsl
                clear hs3 hs4 hsl
                by_cases q6 : mid < e
                · have k1 : (mid : Int) < (e : Int) := by omega
                  have k2 : ¬ (e : Int) < (b : Int) := by omega
                  try (exfalso; omega)
                  all_goals (
                    go_wp2
                    go_end0
                    obtain ⟨x1, x2⟩ := merge_join (by omega) (by omega) H1.out.2.2.2.2.2 H2.out.1 H2.out.2 (.refl _ _ _ _) H3.out
                    exact ⟨rfl, d2, H1.out.1.trans x1, x2, SD.out⟩)
                · have k1 : ¬ (mid : Int) < (e : Int) := by omega
                  try (exfalso; omega)
                  all_goals (
                    go_wp2
                    go_end0
                    obtain ⟨x1, x2⟩ := merge_join (by omega) (by omega) H1.out.2.2.2.2.2 H2.out.1 H2.out.2 (.refl _ _ _ _) H3.out
                    exact ⟨rfl, d2, H1.out.1.trans x1, x2, SD.out⟩))
          · have g1 : ¬ ((a : Int) < (r : Int) ∧ (r : Int) < (mid : Int)) := by omega
            obtain ⟨d2, hdd, H2, SE, hd2⟩ : ∃ d2, d2 = d1 ∧ Hid (Mrg key a mid d1 d2 ∧ Srt key a mid d2) ∧ Aside (SWK It.cells 2 w0 blk off d2 w1) ∧ d2.size = d.size := ⟨d1, rfl, ⟨.refl _ _ _ _, by
              by_cases q : a < r
              · have := H1.out.2.1
                rwa [show r = mid from by omega] at this
              · have := H1.out.2.2.1
                rwa [show r = a from by omega] at this⟩, SD, hd1⟩
            clear hdd SD
            have SD := SE
            clear SE
            by_cases q3 : a < r
            · have g2 : (a : Int) < (r : Int) := by omega
              have g3 : ¬ (r : Int) < (mid : Int) := by omega
              try (exfalso; omega)
              all_goals (
                have hs3 : Srt key mid e d2 := H1.out.2.2.2.1.of fun i i1 i2 => H2.out.1.out i (.inr i1)
                have hs4 : Srt key e b d2 := H1.out.2.2.2.2.1.of fun i i1 i2 => H2.out.1.out i (.inr (by omega))
                by_cases q5 : mid < e ∧ e < b
                · have k1 : (mid : Int) < (e : Int) := by omega
                  have k2 : (e : Int) < (b : Int) := by omega
                  have K := IH.out mid e b d2 w1 (by omega) q5.1 q5.2 (by omega) (by omega) SD.out hs3 hs4
                  have hs3' := Lib.hid hs3
                  clear SD hs3 hs4
                  go_wp2_with fail
                  refine K.mono ?_
                  rintro e3 w3 ⟨rfl, d3, m3, s3, S⟩
                  have SD : Aside (SWK It.cells 2 w0 blk off d3 w3) := S
                  have H3 := Lib.hid (And.intro m3 s3)
                  clear S K m3 s3
                  try (exfalso; omega)
                  all_goals (
                    go_wp2
                    go_end0
                    obtain ⟨x1, x2⟩ := merge_join (by omega) (by omega) H1.out.2.2.2.2.2 H2.out.1 H2.out.2 H3.out.1 H3.out.2
                    exact ⟨rfl, d3, H1.out.1.trans x1, x2, SD.out⟩)
                · have hsl : Srt key mid b d2 := by
                    by_cases q : mid < e
                    · rwa [show e = b from by omega] at hs3
                    · rwa [show e = mid from by omega] at hs4
                  have H3 := Lib.hid hsl
                  clear hs3 hs4 hsl
                  by_cases q6 : mid < e
                  · have k1 : (mid : Int) < (e : Int) := by omega
                    have k2 : ¬ (e : Int) < (b : Int) := by omega
                    try (exfalso; omega)
                    all_goals (
                      go_wp2
                      go_end0
                      obtain ⟨x1, x2⟩ := merge_join (by omega) (by omega) H1.out.2.2.2.2.2 H2.out.1 H2.out.2 (.refl _ _ _ _) H3.out
                      exact ⟨rfl, d2, H1.out.1.trans x1, x2, SD.out⟩)
                  · have k1 : ¬ (mid : Int) < (e : Int) := by omega
                    try (exfalso; omega)
                    all_goals (
                      go_wp2
                      go_end0
                      obtain ⟨x1, x2⟩ := merge_join (by omega) (by omega) H1.out.2.2.2.2.2 H2.out.1 H2.out.2 (.refl _ _ _ _) H3.out
                      exact ⟨rfl, d2, H1.out.1.trans x1, x2, SD.out⟩))
            · have g2 : ¬ (a : Int) < (r : Int) := by omega
              try (exfalso; omega)
              all_goals (
                have hs3 : Srt key mid e d2 := H1.out.2.2.2.1.of fun i i1 i2 => H2.out.1.out i (.inr i1)
                have hs4 : Srt key e b d2 := H1.out.2.2.2.2.1.of fun i i1 i2 => H2.out.1.out i (.inr (by omega))
                by_cases q5 : mid < e ∧ e < b
                · have k1 : (mid : Int) < (e : Int) := by omega
                  have k2 : (e : Int) < (b : Int) := by omega
                  have K := IH.out mid e b d2 w1 (by omega) q5.1 q5.2 (by omega) (by omega) SD.out hs3 hs4
                  have hs3' := Lib.hid hs3
                  clear SD hs3 hs4
                  go_wp2_with fail
                  refine K.mono ?_
                  rintro e3 w3 ⟨rfl, d3, m3, s3, S⟩
                  have SD : Aside (SWK It.cells 2 w0 blk off d3 w3) := S
                  have H3 := Lib.hid (And.intro m3 s3)
                  clear S K m3 s3
                  try (exfalso; omega)
                  all_goals (
                    go_wp2
                    go_end0
                    obtain ⟨x1, x2⟩ := merge_join (by omega) (by omega) H1.out.2.2.2.2.2 H2.out.1 H2.out.2 H3.out.1 H3.out.2
                    exact ⟨rfl, d3, H1.out.1.trans x1, x2, SD.out⟩)
                · have hsl : Srt key mid b d2 := by
                    by_cases q : mid < e
                    · rwa [show e = b from by omega] at hs3
                    · rwa [show e = mid from by omega] at hs4
                  have H3 := Lib.hid hsl
                  clear hs3 hs4 hsl
                  by_cases q6 : mid < e
                  · have k1 : (mid : Int) < (e : Int) := by omega
                    have k2 : ¬ (e : Int) < (b : Int) := by omega
                    try (exfalso; omega)
                    all_goals (
                      go_wp2
                      go_end0
                      obtain ⟨x1, x2⟩ := merge_join (by omega) (by omega) H1.out.2.2.2.2.2 H2.out.1 H2.out.2 (.refl _ _ _ _) H3.out
                      exact ⟨rfl, d2, H1.out.1.trans x1, x2, SD.out⟩)
                  · have k1 : ¬ (mid : Int) < (e : Int) := by omega
                    try (exfalso; omega)
                    all_goals (
                      go_wp2
                      go_end0
                      obtain ⟨x1, x2⟩ := merge_join (by omega) (by omega) H1.out.2.2.2.2.2 H2.out.1 H2.out.2 (.refl _ _ _ _) H3.out
                      exact ⟨rfl, d2, H1.out.1.trans x1, x2, SD.out⟩))
        · have f1 : ¬ ((r : Int) < (m : Int) ∧ (m : Int) < (e : Int)) := by omega
          obtain ⟨d1, hdd, H1, SD, hd1⟩ : ∃ d1, d1 = d ∧ Hid (RotF key a r mid e b d d1) ∧ Aside (SWK It.cells 2 w0 blk off d1 wr) ∧ d1.size = d.size := ⟨d, rfl, HF.out d (by
            by_cases q : r = m
            · subst q; exact IsRot.nil' d
            · obtain rfl : e = m := by omega
              exact IsRot.nil d), S1, rfl⟩
          clear hdd HF S1
          by_cases q0 : r < m
          · have f2 : (r : Int) < (m : Int) := by omega
            have f3 : ¬ (m : Int) < (e : Int) := by omega
            by_cases q2 : a < r ∧ r < mid
            · have g1 : (a : Int) < (r : Int) := by omega
              have g2 : (r : Int) < (mid : Int) := by omega
              have K := IH.out a r mid d1 wr (by omega) q2.1 q2.2 (by omega) (by omega) SD.out H1.out.2.1 H1.out.2.2.1
              clear SD
              go_wp2_with fail
              refine K.mono ?_
              rintro e2 w2 ⟨rfl, d2, m2, s2, S⟩
              have SD : Aside (SWK It.cells 2 w0 blk off d2 w2) := S
              have H2 := Lib.hid (And.intro m2 s2)
              have hd2 : d2.size = d.size := m2.stb.1.trans hd1
              clear S K m2 s2
              try (exfalso; omega)
              all_goals (
                have hs3 : Srt key mid e d2 := H1.out.2.2.2.1.of fun i i1 i2 => H2.out.1.out i (.inr i1)
                have hs4 : Srt key e b d2 := H1.out.2.2.2.2.1.of fun i i1 i2 => H2.out.1.out i (.inr (by omega))
                by_cases q5 : mid < e ∧ e < b
                · have k1 : (mid : Int) < (e : Int) := by omega
                  have k2 : (e : Int) < (b : Int) := by omega
                  have K := IH.out mid e b d2 w2 (by omega) q5.1 q5.2 (by omega) (by omega) SD.out hs3 hs4
                  have hs3' := Lib.hid hs3
                  clear SD hs3 hs4
                  go_wp2_with fail
                  refine K.mono ?_
                  rintro e3 w3 ⟨rfl, d3, m3, s3, S⟩
                  have SD : Aside (SWK It.cells 2 w0 blk off d3 w3) := S
                  have H3 := Lib.hid (And.intro m3 s3)
                  clear S K m3 s3
                  try (exfalso; omega)
                  all_goals (
                    go_wp2
                    go_end0
                    obtain ⟨x1, x2⟩ := merge_join (by omega) (by omega) H1.out.2.2.2.2.2 H2.out.1 H2.out.2 H3.out.1 H3.out.2
                    exact ⟨rfl, d3, H1.out.1.trans x1, x2, SD.out⟩)
                · have hsl : Srt key mid b d2 := by
                    by_cases q : mid < e
                    · rwa [show e = b from by omega] at hs3
                    · rwa [show e = mid from by omega] at hs4
                  have H3 := Lib.hid hsl
                  clear hs3 hs4 hsl
                  by_cases q6 : mid < e
                  · have k1 : (mid : Int) < (e : Int) := by omega
                    have k2 : ¬ (e : Int) < (b : Int) := by omega
                    try (exfalso; omega)
                    all_goals (
                      go_wp2
                      go_end0
                      obtain ⟨x1, x2⟩ := merge_join (by omega) (by omega) H1.out.2.2.2.2.2 H2.out.1 H2.out.2 (.refl _ _ _ _) H3.out
                      exact ⟨rfl, d2, H1.out.1.trans x1, x2, SD.out⟩)
                  · have k1 : ¬ (mid : Int) < (e : Int) := by omega
                    try (exfalso; omega)
                    all_goals (
                      go_wp2
                      go_end0
                      obtain ⟨x1, x2⟩ := merge_join (by omega) (by omega) H1.out.2.2.2.2.2 H2.out.1 H2.out.2 (.refl _ _ _ _) H3.out
                      exact ⟨rfl, d2, H1.out.1.trans x1, x2, SD.out⟩))
            · have g1 : ¬ ((a : Int) < (r : Int) ∧ (r : Int) < (mid : Int)) := by omega
              obtain ⟨d2, hdd, H2, SE, hd2⟩ : ∃ d2, d2 = d1 ∧ Hid (Mrg key a mid d1 d2 ∧ Srt key a mid d2) ∧ Aside (SWK It.cells 2 w0 blk off d2 wr) ∧ d2.size = d.size := ⟨d1, rfl, ⟨.refl _ _ _ _, by
                by_cases q : a < r
                · have := H1.out.2.1
                  rwa [show r = mid from by omega] at this
                · have := H1.out.2.2.1
                  rwa [show r = a from by omega] at this⟩, SD, hd1⟩
              clear hdd SD
              have SD := SE
              clear SE
              by_cases q3 : a < r
              · have g2 : (a : Int) < (r : Int) := by omega
                have g3 : ¬ (r : Int) < (mid : Int) := by omega
                try (exfalso; omega)
                all_goals (
                  have hs3 : Srt key mid e d2 := H1.out.2.2.2.1.of fun i i1 i2 => H2.out.1.out i (.inr i1)
                  have hs4 : Srt key e b d2 := H1.out.2.2.2.2.1.of fun i i1 i2 => H2.out.1.out i (.inr (by omega))
                  by_cases q5 : mid < e ∧ e < b
                  · have k1 : (mid : Int) < (e : Int) := by omega
                    have k2 : (e : Int) < (b : Int) := by omega
                    have K := IH.out mid e b d2 wr (by omega) q5.1 q5.2 (by omega) (by omega) SD.out hs3 hs4
                    have hs3' := Lib.hid hs3
                    clear SD hs3 hs4
                    go_wp2_with fail
                    refine K.mono ?_
                    rintro e3 w3 ⟨rfl, d3, m3, s3, S⟩
                    have SD : Aside (SWK It.cells 2 w0 blk off d3 w3) := S
                    have H3 := Lib.hid (And.intro m3 s3)
                    clear S K m3 s3
                    try (exfalso; omega)
                    all_goals (
                      go_wp2
                      go_end0
                      obtain ⟨x1, x2⟩ := merge_join (by omega) (by omega) H1.out.2.2.2.2.2 H2.out.1 H2.out.2 H3.out.1 H3.out.2
                      exact ⟨rfl, d3, H1.out.1.trans x1, x2, SD.out⟩)
                  · have hsl : Srt key mid b d2 := by
                      by_cases q : mid < e
                      · rwa [show e = b from by omega] at hs3
                      · rwa [show e = mid from by omega] at hs4
                    have H3 := Lib.hid hsl
                    clear hs3 hs4 hsl
                    by_cases q6 : mid < e
                    · have k1 : (mid : Int) < (e : Int) := by omega
                      have k2 : ¬ (e : Int) < (b : Int) := by omega
                      try (exfalso; omega)
                      all_goals (
                        go_wp2
                        go_end0
                        obtain ⟨x1, x2⟩ := merge_join (by omega) (by omega) H1.out.2.2.2.2.2 H2.out.1 H2.out.2 (.refl _ _ _ _) H3.out
                        exact ⟨rfl, d2, H1.out.1.trans x1, x2, SD.out⟩)
                    · have k1 : ¬ (mid : Int) < (e : Int) := by omega
                      try (exfalso; omega)
                      all_goals (
                        go_wp2
                        go_end0
                        obtain ⟨x1, x2⟩ := merge_join (by omega) (by omega) H1.out.2.2.2.2.2 H2.out.1 H2.out.2 (.refl _ _ _ _) H3.out
                        exact ⟨rfl, d2, H1.out.1.trans x1, x2, SD.out⟩))
              · have g2 : ¬ (a : Int) < (r : Int) := by omega
                try (exfalso; omega)
                all_goals (
                  have hs3 : Srt key mid e d2 := H1.out.2.2.2.1.of fun i i1 i2 => H2.out.1.out i (.inr i1)
                  have hs4 : Srt key e b d2 := H1.out.2.2.2.2.1.of fun i i1 i2 => H2.out.1.out i (.inr (by omega))
                  by_cases q5 : mid < e ∧ e < b
                  · have k1 : (mid : Int) < (e : Int) := by omega
                    have k2 : (e : Int) < (b : Int) := by omega
                    have K := IH.out mid e b d2 wr (by omega) q5.1 q5.2 (by omega) (by omega) SD.out hs3 hs4
                    have hs3' := Lib.hid hs3
                    clear SD hs3 hs4
                    go_wp2_with fail
                    refine K.mono ?_
                    rintro e3 w3 ⟨rfl, d3, m3, s3, S⟩
                    have SD : Aside (SWK It.cells 2 w0 blk off d3 w3) := S
                    have H3 := Lib.hid (And.intro m3 s3)
                    clear S K m3 s3
                    try (exfalso; omega)
                    all_goals (
                      go_wp2
                      go_end0
                      obtain ⟨x1, x2⟩ := merge_join (by omega) (by omega) H1.out.2.2.2.2.2 H2.out.1 H2.out.2 H3.out.1 H3.out.2
                      exact ⟨rfl, d3, H1.out.1.trans x1, x2, SD.out⟩)
                  · have hsl : Srt key mid b d2 := by
                      by_cases q : mid < e
                      · rwa [show e = b from by omega] at hs3
                      · rwa [show e = mid from by omega] at hs4
                    have H3 := Lib.hid hsl
                    clear hs3 hs4 hsl
                    by_cases q6 : mid < e
                    · have k1 : (mid : Int) < (e : Int) := by omega
                      have k2 : ¬ (e : Int) < (b : Int) := by omega
                      try (exfalso; omega)
                      all_goals (
                        go_wp2
                        go_end0
                        obtain ⟨x1, x2⟩ := merge_join (by omega) (by omega) H1.out.2.2.2.2.2 H2.out.1 H2.out.2 (.refl _ _ _ _) H3.out
                        exact ⟨rfl, d2, H1.out.1.trans x1, x2, SD.out⟩)
                    · have k1 : ¬ (mid : Int) < (e : Int) := by omega
                      try (exfalso; omega)
                      all_goals (
                        go_wp2
                        go_end0
                        obtain ⟨x1, x2⟩ := merge_join (by omega) (by omega) H1.out.2.2.2.2.2 H2.out.1 H2.out.2 (.refl _ _ _ _) H3.out
                        exact ⟨rfl, d2, H1.out.1.trans x1, x2, SD.out⟩))
          · have f2 : ¬ (r : Int) < (m : Int) := by omega
            by_cases q2 : a < r ∧ r < mid
            · have g1 : (a : Int) < (r : Int) := by omega
              have g2 : (r : Int) < (mid : Int) := by omega
              have K := IH.out a r mid d1 wr (by omega) q2.1 q2.2 (by omega) (by omega) SD.out H1.out.2.1 H1.out.2.2.1
              clear SD
              go_wp2_with fail
              refine K.mono ?_
              rintro e2 w2 ⟨rfl, d2, m2, s2, S⟩
              have SD : Aside (SWK It.cells 2 w0 blk off d2 w2) := S
              have H2 := Lib.hid (And.intro m2 s2)
              have hd2 : d2.size = d.size := m2.stb.1.trans hd1
              clear S K m2 s2
              try (exfalso; omega)
              all_goals (
                have hs3 : Srt key mid e d2 := H1.out.2.2.2.1.of fun i i1 i2 => H2.out.1.out i (.inr i1)
                have hs4 : Srt key e b d2 := H1.out.2.2.2.2.1.of fun i i1 i2 => H2.out.1.out i (.inr (by omega))
                by_cases q5 : mid < e ∧ e < b
                · have k1 : (mid : Int) < (e : Int) := by omega
                  have k2 : (e : Int) < (b : Int) := by omega
                  have K := IH.out mid e b d2 w2 (by omega) q5.1 q5.2 (by omega) (by omega) SD.out hs3 hs4
                  have hs3' := Lib.hid hs3
                  clear SD hs3 hs4
                  go_wp2_with fail
                  refine K.mono ?_
                  rintro e3 w3 ⟨rfl, d3, m3, s3, S⟩
                  have SD : Aside (SWK It.cells 2 w0 blk off d3 w3) := S
                  have H3 := Lib.hid (And.intro m3 s3)
                  clear S K m3 s3
                  try (exfalso; omega)
                  all_goals (
                    go_wp2
                    go_end0
                    obtain ⟨x1, x2⟩ := merge_join (by omega) (by omega) H1.out.2.2.2.2.2 H2.out.1 H2.out.2 H3.out.1 H3.out.2
                    exact ⟨rfl, d3, H1.out.1.trans x1, x2, SD.out⟩)
                · have hsl : Srt key mid b d2 := by
                    by_cases q : mid < e
                    · rwa [show e = b from by omega] at hs3
                    · rwa [show e = mid from by omega] at hs4
                  have H3 := Lib.hid hsl
                  clear hs3 hs4 hsl
                  by_cases q6 : mid < e
                  · have k1 : (mid : Int) < (e : Int) := by omega
                    have k2 : ¬ (e : Int) < (b : Int) := by omega
                    try (exfalso; omega)
                    all_goals (
                      go_wp2
                      go_end0
                      obtain ⟨x1, x2⟩ := merge_join (by omega) (by omega) H1.out.2.2.2.2.2 H2.out.1 H2.out.2 (.refl _ _ _ _) H3.out
                      exact ⟨rfl, d2, H1.out.1.trans x1, x2, SD.out⟩)
                  · have k1 : ¬ (mid : Int) < (e : Int) := by omega
                    try (exfalso; omega)
                    all_goals (
                      go_wp2
                      go_end0
                      obtain ⟨x1, x2⟩ := merge_join (by omega) (by omega) H1.out.2.2.2.2.2 H2.out.1 H2.out.2 (.refl _ _ _ _) H3.out
                      exact ⟨rfl, d2, H1.out.1.trans x1, x2, SD.out⟩))
            · have g1 : ¬ ((a : Int) < (r : Int) ∧ (r : Int) < (mid : Int)) := by omega
              obtain ⟨d2, hdd, H2, SE, hd2⟩ : ∃ d2, d2 = d1 ∧ Hid (Mrg key a mid d1 d2 ∧ Srt key a mid d2) ∧ Aside (SWK It.cells 2 w0 blk off d2 wr) ∧ d2.size = d.size := ⟨d1, rfl, ⟨.refl _ _ _ _, by
                by_cases q : a < r
                · have := H1.out.2.1
                  rwa [show r = mid from by omega] at this
                · have := H1.out.2.2.1
                  rwa [show r = a from by omega] at this⟩, SD, hd1⟩
              clear hdd SD
              have SD := SE
              clear SE
              by_cases q3 : a < r
              · have g2 : (a : Int) < (r : Int) := by omega
                have g3 : ¬ (r : Int) < (mid : Int) := by omega
                try (exfalso; omega)
                all_goals (
                  have hs3 : Srt key mid e d2 := H1.out.2.2.2.1.of fun i i1 i2 => H2.out.1.out i (.inr i1)
                  have hs4 : Srt key e b d2 := H1.out.2.2.2.2.1.of fun i i1 i2 => H2.out.1.out i (.inr (by omega))
                  by_cases q5 : mid < e ∧ e < b
                  · have k1 : (mid : Int) < (e : Int) := by omega
                    have k2 : (e : Int) < (b : Int) := by omega
                    have K := IH.out mid e b d2 wr (by omega) q5.1 q5.2 (by omega) (by omega) SD.out hs3 hs4
                    have hs3' := Lib.hid hs3
                    clear SD hs3 hs4
                    go_wp2_with fail
                    refine K.mono ?_
                    rintro e3 w3 ⟨rfl, d3, m3, s3, S⟩
                    have SD : Aside (SWK It.cells 2 w0 blk off d3 w3) := S
                    have H3 := Lib.hid (And.intro m3 s3)
                    clear S K m3 s3
                    try (exfalso; omega)
                    all_goals (
                      go_wp2
                      go_end0
                      obtain ⟨x1, x2⟩ := merge_join (by omega) (by omega) H1.out.2.2.2.2.2 H2.out.1 H2.out.2 H3.out.1 H3.out.2
                      exact ⟨rfl, d3, H1.out.1.trans x1, x2, SD.out⟩)
                  · have hsl : Srt key mid b d2 := by
                      by_cases q : mid < e
                      · rwa [show e = b from by omega] at hs3
                      · rwa [show e = mid from by omega] at hs4
                    have H3 := Lib.hid hsl
                    clear hs3 hs4 hsl
                    by_cases q6 : mid < e
                    · have k1 : (mid : Int) < (e : Int) := by omega
                      have k2 : ¬ (e : Int) < (b : Int) := by omega
                      try (exfalso; omega)
                      all_goals (
                        go_wp2
                        go_end0
                        obtain ⟨x1, x2⟩ := merge_join (by omega) (by omega) H1.out.2.2.2.2.2 H2.out.1 H2.out.2 (.refl _ _ _ _) H3.out
                        exact ⟨rfl, d2, H1.out.1.trans x1, x2, SD.out⟩)
                    · have k1 : ¬ (mid : Int) < (e : Int) := by omega
                      try (exfalso; omega)
                      all_goals (
                        go_wp2
                        go_end0
                        obtain ⟨x1, x2⟩ := merge_join (by omega) (by omega) H1.out.2.2.2.2.2 H2.out.1 H2.out.2 (.refl _ _ _ _) H3.out
                        exact ⟨rfl, d2, H1.out.1.trans x1, x2, SD.out⟩))
              · have g2 : ¬ (a : Int) < (r : Int) := by omega
                try (exfalso; omega)
                all_goals (
                  have hs3 : Srt key mid e d2 := H1.out.2.2.2.1.of fun i i1 i2 => H2.out.1.out i (.inr i1)
                  have hs4 : Srt key e b d2 := H1.out.2.2.2.2.1.of fun i i1 i2 => H2.out.1.out i (.inr (by omega))
                  by_cases q5 : mid < e ∧ e < b
                  · have k1 : (mid : Int) < (e : Int) := by omega
                    have k2 : (e : Int) < (b : Int) := by omega
                    have K := IH.out mid e b d2 wr (by omega) q5.1 q5.2 (by omega) (by omega) SD.out hs3 hs4
                    have hs3' := Lib.hid hs3
                    clear SD hs3 hs4
                    go_wp2_with fail
                    refine K.mono ?_
                    rintro e3 w3 ⟨rfl, d3, m3, s3, S⟩
                    have SD : Aside (SWK It.cells 2 w0 blk off d3 w3) := S
                    have H3 := Lib.hid (And.intro m3 s3)
                    clear S K m3 s3
                    try (exfalso; omega)
                    all_goals (
                      go_wp2
                      go_end0
                      obtain ⟨x1, x2⟩ := merge_join (by omega) (by omega) H1.out.2.2.2.2.2 H2.out.1 H2.out.2 H3.out.1 H3.out.2
                      exact ⟨rfl, d3, H1.out.1.trans x1, x2, SD.out⟩)
                  · have hsl : Srt key mid b d2 := by
                      by_cases q : mid < e
                      · rwa [show e = b from by omega] at hs3
                      · rwa [show e = mid from by omega] at hs4
                    have H3 := Lib.hid hsl
                    clear hs3 hs4 hsl
                    by_cases q6 : mid < e
                    · have k1 : (mid : Int) < (e : Int) := by omega
                      have k2 : ¬ (e : Int) < (b : Int) := by omega
                      try (exfalso; omega)
                      all_goals (
                        go_wp2
                        go_end0
                        obtain ⟨x1, x2⟩ := merge_join (by omega) (by omega) H1.out.2.2.2.2.2 H2.out.1 H2.out.2 (.refl _ _ _ _) H3.out
                        exact ⟨rfl, d2, H1.out.1.trans x1, x2, SD.out⟩)
                    · have k1 : ¬ (mid : Int) < (e : Int) := by omega
                      try (exfalso; omega)
                      all_goals (
                        go_wp2
                        go_end0
                        obtain ⟨x1, x2⟩ := merge_join (by omega) (by omega) H1.out.2.2.2.2.2 H2.out.1 H2.out.2 (.refl _ _ _ _) H3.out
                        exact ⟨rfl, d2, H1.out.1.trans x1, x2, SD.out⟩))

theorem symMerge_T (g : Nat) (cb : Array Value) (eg : ∀ args w, (callFunc g args).run Try.prog w = .ok (.enter g args) w) {cf : It → It → Int} {key : It → Int} (hcf : ∀ x y, cf x y < 0 ↔ key x < key y) (blk off cap : Nat) (d0 : Array It) (w0 : World) (hsz : d0.size < 4611686018427387904)
    (hcmp : ∀ W, CmpLays Try.prog g cb It.cells 2 cf blk off d0.size W) (R : RowK It.cells 2 w0 blk off d0) :
    ∀ (n a m b : Nat) (d : Array It) (w : World), b - a ≤ n → d0.size = d.size → SWK It.cells 2 w0 blk off d w → a < m → m < b → b ≤ d.size → Srt key a m d → Srt key m b d →
    Calls Try.prog 63 #[.slice (some ⟨blk, off, none⟩) d.size cap, .int .i64 a, .int .i64 m, .int .i64 b, .func (.func g) #[] cb] w fun e w' => e = .returned (.tuple #[]) ∧ ∃ d', Mrg key a b d d' ∧ Srt key a b d' ∧ SWK It.cells 2 w0 blk off d' w' := by
  intro n
  induction n with
  | zero => intro a m b d w hn hs S ham hmb; omega
  | succ n ih =>
    intro a m b d w hn hs S ham hmb hb s1 s2
    by_cases h1 : m = a + 1
    · exact symLeft_T g cb eg hcf blk off cap d0 w0 hsz hcmp R a m b d w hs S h1 hmb hb s1 s2
    · by_cases h2 : b = m + 1
      · exact symRight_T g cb eg hcf blk off cap d0 w0 hsz hcmp R a m b d w hs S h2 (by omega) hb s1 s2
      · exact symStep_T g cb eg hcf blk off cap d0 w0 hsz hcmp R a m b d w hs S (by omega) (by omega) hb s1 s2 fun a' m' b' d' w' k1 k2 k3 k4 k5 k6 k7 k8 => k5 ▸ ih a' m' b' d' w' (by omega) (hs.trans k5.symm) k6 k2 k3 (by omega) k7 k8
end Go.Proofs.Ytfjipkkhjjpaiaa
