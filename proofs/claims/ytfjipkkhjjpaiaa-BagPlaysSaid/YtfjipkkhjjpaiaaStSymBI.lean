/-
  The merge of two neighbouring stretches, in place (slices.symMergeCmpFunc at ints) over this seat's translation. Conditions: those that each theorem states.
-/
import Derived.Test.YtfjipkkhjjpaiaaStSymAI

namespace Go.Proofs.Ytfjipkkhjjpaiaa
open Go.Shelf Go.RowKit Go.Lib Go.Sort St

/-- What a rotation leaves to do. -/
abbrev RotF {α : Type} [Inhabited α] (key : α → Int) (a s c e b : Nat) (d d' : Array α) : Prop := Mrg key a b d d' ∧ Srt key a s d' ∧ Srt key s c d' ∧ Srt key c e d' ∧ Srt key e b d' ∧ (∀ i j, a ≤ i → i < c → c ≤ j → j < b → key d'[i]! ≤ key d'[j]!)

set_option maxHeartbeats 64000000 in
set_option maxRecDepth 1000000 in
theorem symStep_I (g : Nat) (cb : Array Value) (eg : ∀ args w, (callFunc g args).run Try.prog w = .ok (.enter g args) w) {cf : Int → Int → Int} {key : Int → Int} (hcf : ∀ x y, cf x y < 0 ↔ key x < key y) (blk off cap : Nat) (d0 : Array Int) (w0 : World) (hsz : d0.size < 4611686018427387904)
    (hcmp : CmpLays1 Try.prog g cb (Value.int .i64) cf blk off d0.size w0) (R : Row1 (Value.int .i64) w0 blk off d0)
    (a m b : Nat) (d : Array Int) (w : World) (hs : d0.size = d.size) (S : SW (Value.int .i64) w0 blk off d w) (ham : a + 1 < m) (hmb : m + 1 < b) (hb : b ≤ d.size) (s1 : Srt key a m d) (s2 : Srt key m b d)
    (ih : ∀ (a' m' b' : Nat) (d' : Array Int) (w' : World), b' - a' < b - a → a' < m' → m' < b' → b' ≤ d.size → d'.size = d.size → SW (Value.int .i64) w0 blk off d' w' → Srt key a' m' d' → Srt key m' b' d' →
      Calls Try.prog 66 #[.slice (some ⟨blk, off, none⟩) d.size cap, .int .i64 a', .int .i64 m', .int .i64 b', .func (.func g) #[] cb] w' fun e w'' => e = .returned (.tuple #[]) ∧ ∃ d'', Mrg key a' b' d' d'' ∧ Srt key a' b' d'' ∧ SW (Value.int .i64) w0 blk off d'' w'') :
    Calls Try.prog 66 #[.slice (some ⟨blk, off, none⟩) d.size cap, .int .i64 a, .int .i64 m, .int .i64 b, .func (.func g) #[] cb] w fun e w' => e = .returned (.tuple #[]) ∧ ∃ d', Mrg key a b d d' ∧ Srt key a b d' ∧ SW (Value.int .i64) w0 blk off d' w' := by
  have mixed : Try.prog.follows .mixedOrders = true := by kernel_rfl
  have S0 : Aside (SW (Value.int .i64) w0 blk off d w) := S
  clear S
  have HC : Aside _ := hcmp
  have HCF := Lib.hid hcf
  have HS1 := Lib.hid s1
  have HS2 := Lib.hid s2
  have IH := Lib.hid ih
  clear hcmp hcf s1 s2 ih
  rw [hs] at hsz
  obtain ⟨u, hu⟩ : ∃ u : Int, u = (m : Int) - (a : Int) := ⟨_, rfl⟩
  have hw0 : IntKind.i64.wrap ((m : Int) - (a : Int)) = u := by rw [IntKind.wrap_i64] <;> omega
  have hu1 : ¬ u = 1 := by omega
  have hub : (u == 1) = false := by simpa using hu1
  obtain ⟨v, hv⟩ : ∃ v : Int, v = (b : Int) - (m : Int) := ⟨_, rfl⟩
  have hw1 : IntKind.i64.wrap ((b : Int) - (m : Int)) = v := by rw [IntKind.wrap_i64] <;> omega
  have hv1 : ¬ v = 1 := by omega
  have hvb : (v == 1) = false := by simpa using hv1
  obtain ⟨mid, hmid⟩ : ∃ q, q = (a + b) / 2 := ⟨_, rfl⟩
  have zmid : ((a : Int) + (b : Int)) / 2 = (mid : Int) := by omega
  have hmd1 : 2 * mid ≤ a + b := by omega
  have hmd2 : a + b ≤ 2 * mid + 1 := by omega
  obtain ⟨N, hN⟩ : ∃ q, q = mid + m := ⟨_, rfl⟩
  have zN : (mid : Int) + (m : Int) = (N : Int) := by omega
  have hN1 : N ≤ mid + m := by omega
  have hN2 : mid + m ≤ N := by omega
  obtain ⟨p, hp⟩ : ∃ q, q = N - 1 := ⟨_, rfl⟩
  have zp : IntKind.i64.wrap ((N : Int) - 1) = (p : Int) := by rw [IntKind.wrap_i64] <;> omega
  have hp1 : p ≤ N - 1 := by omega
  have hp2 : N ≤ p + 1 := by omega
  clear hu hv hmid hN hp
  go_enter Try.func66, Try.ntmps66
  by_cases hAB : mid < m
  · have hab : decide ((m : Int) > (mid : Int)) = true := decide_eq_true (by omega)
    have hab2 : (mid : Int) < (m : Int) := by omega
    have zlo : IntKind.i64.wrap ((N : Int) - (b : Int)) = ((N - b : Nat) : Int) := by rw [IntKind.wrap_i64] <;> omega
    go_wp2
    go_loopg [20, 21] (mid - (N - b)) (fun kx s20 s21 wr => ∃ (s r : Nat), s20 = .int .i64 s ∧ s21 = .int .i64 r ∧ (N - b) ≤ s ∧ s ≤ r ∧ r ≤ mid ∧ r - s ≤ kx ∧ Aside (SW (Value.int .i64) w0 blk off d wr) ∧ Hid ((s = (N - b) ∨ ¬ key d[N - s]! < key d[s - 1]!) ∧ (r = mid ∨ key d[N - 1 - r]! < key d[r]!)))
    case atStart => exact ⟨(N - b), mid, by first | rfl | go_num | (congr 1; omega), rfl, Nat.le_refl _, by omega, Nat.le_refl _, Nat.le_refl _, S0, (show Hid _ from ⟨.inl rfl, .inl rfl⟩)⟩
    case round =>
      clear S0
      obtain ⟨s, r, rfl, rfl, hls, hsr, hrr, hkx, S1, HI⟩ := hrel
      by_cases hlt : s < r
      · have hltz : (s : Int) < (r : Int) := by omega
        obtain ⟨c, hc⟩ : ∃ c, c = (s + r) / 2 := ⟨_, rfl⟩
        have zc : ((s : Int) + (r : Int)) / 2 = (c : Int) := by omega
        have c1 : s ≤ c := by omega
        have c2 : c < r := by omega
        clear hc
        obtain ⟨pc, hpc⟩ : ∃ t, t = p - c := ⟨_, rfl⟩
        have zpc : IntKind.i64.wrap ((p : Int) - (c : Int)) = (pc : Int) := by rw [IntKind.wrap_i64] <;> omega
        have hpc2 : pc + c = p := by omega
        clear hpc
        go_wp2_with fail
        by_cases hk : key d[pc]! < key d[c]!
        · obtain ⟨iN107, hiN107⟩ : ∃ q, q = pc := ⟨_, rfl⟩
          obtain ⟨jN107, hjN107⟩ : ∃ q, q = c := ⟨_, rfl⟩
          have ea107 : ((pc : Int)).toNat = iN107 := by omega
          have pa107 : (0 : Int) ≤ (pc : Int) := by omega
          have ba107 : (pc : Int) < (d.size : Int) := by omega
          have ra107 : IntKind.i64.wrap ((pc : Int)) = (pc : Int) := by rw [IntKind.wrap_i64]; omega
          have ec107 : ((c : Int)).toNat = jN107 := by omega
          have pc107 : (0 : Int) ≤ (c : Int) := by omega
          have bc107 : (c : Int) < (d.size : Int) := by omega
          have rc107 : IntKind.i64.wrap ((c : Int)) = (c : Int) := by rw [IntKind.wrap_i64]; omega
          obtain ⟨x107, hx107⟩ : ∃ x, x = d[pc]! := ⟨_, rfl⟩
          obtain ⟨y107, hy107⟩ : ∃ x, x = d[c]! := ⟨_, rfl⟩
          have l107a := S1.out.cl R (by omega) (pc) (by omega)
          have l107b := S1.out.cl R (by omega) (c) (by omega)
          rw [← hx107, ← hiN107] at l107a
          rw [← hy107, ← hjN107] at l107b
          have hc107 := S1.out.cmp HC.out (by omega) x107 y107
          have hv107 : cf x107 y107 < 0 := by rw [hx107, hy107]; exact (HCF.out _ _).2 hk
          have hd107 : decide (cf x107 y107 < 0) = true := decide_eq_true hv107
          clear hx107 hy107 hiN107 hjN107
          go_wp2_with fail
          go_quiet_grown (first | (go_at_fn g; refine Calls.grown_of (hc107 _ _)))
          have S2 : Aside (SW (Value.int .i64) w0 blk off d (grow (wr.drewN nq) osq)) := S1.out.grown nq osq
          clear l107a l107b hc107 S1
          generalize grow (wr.drewN nq) osq = w2 at S2 ⊢
          clear nq osq
          clear ea107 ec107
          go_wp2
          go_roundg (c - s)
          case measure => omega
          case rel => exact ⟨s, c, rfl, rfl, hls, c1, by omega, Nat.le_refl _, S2, (show Hid _ from ⟨HI.out.1, .inr (by rw [show N - 1 - c = pc from by omega]; exact hk)⟩)⟩
        · obtain ⟨iN108, hiN108⟩ : ∃ q, q = pc := ⟨_, rfl⟩
          obtain ⟨jN108, hjN108⟩ : ∃ q, q = c := ⟨_, rfl⟩
          have ea108 : ((pc : Int)).toNat = iN108 := by omega
          have pa108 : (0 : Int) ≤ (pc : Int) := by omega
          have ba108 : (pc : Int) < (d.size : Int) := by omega
          have ra108 : IntKind.i64.wrap ((pc : Int)) = (pc : Int) := by rw [IntKind.wrap_i64]; omega
          have ec108 : ((c : Int)).toNat = jN108 := by omega
          have pc108 : (0 : Int) ≤ (c : Int) := by omega
          have bc108 : (c : Int) < (d.size : Int) := by omega
          have rc108 : IntKind.i64.wrap ((c : Int)) = (c : Int) := by rw [IntKind.wrap_i64]; omega
          obtain ⟨x108, hx108⟩ : ∃ x, x = d[pc]! := ⟨_, rfl⟩
          obtain ⟨y108, hy108⟩ : ∃ x, x = d[c]! := ⟨_, rfl⟩
          have l108a := S1.out.cl R (by omega) (pc) (by omega)
          have l108b := S1.out.cl R (by omega) (c) (by omega)
          rw [← hx108, ← hiN108] at l108a
          rw [← hy108, ← hjN108] at l108b
          have hc108 := S1.out.cmp HC.out (by omega) x108 y108
          have hv108 : ¬ cf x108 y108 < 0 := by rw [hx108, hy108]; exact fun h => hk ((HCF.out _ _).1 h)
          have hd108 : decide (cf x108 y108 < 0) = false := decide_eq_false hv108
          clear hx108 hy108 hiN108 hjN108
          go_wp2_with fail
          go_quiet_grown (first | (go_at_fn g; refine Calls.grown_of (hc108 _ _)))
          have S2 : Aside (SW (Value.int .i64) w0 blk off d (grow (wr.drewN nq) osq)) := S1.out.grown nq osq
          clear l108a l108b hc108 S1
          generalize grow (wr.drewN nq) osq = w2 at S2 ⊢
          clear nq osq
          clear ea108 ec108
          go_wp2
          go_roundg (r - (c + 1))
          case measure => omega
          case rel => exact ⟨c + 1, r, by go_num, rfl, by omega, by omega, hrr, Nat.le_refl _, S2, (show Hid _ from ⟨.inr (by rw [Nat.add_sub_cancel, show N - (c + 1) = pc from by omega]; exact hk), HI.out.2⟩)⟩
      · have hltz : ¬ (s : Int) < (r : Int) := by omega
        obtain rfl : r = s := by omega
        obtain ⟨e, he⟩ : ∃ e, e = N - r := ⟨_, rfl⟩
        have ze : IntKind.i64.wrap ((N : Int) - (r : Int)) = (e : Int) := by rw [IntKind.wrap_i64] <;> omega
        have her : e + r = N := by omega
        have hra : a ≤ r := by omega
        have hrm : r ≤ m := by omega
        have hme : m ≤ e := by omega
        have heb : e ≤ b := by omega
        have hmid2 : r + (e - m) = mid := by omega
        have hA : r = a ∨ e = b ∨ key d[r - 1]! ≤ key d[e]! := by
          rcases HI.out.1 with h | h
          · first | exact .inl h | exact .inr (.inl (by omega))
          · refine .inr (.inr ?_)
            rw [← he] at h
            omega
        have hB : r = m ∨ e = m ∨ key d[e - 1]! < key d[r]! := by
          rcases HI.out.2 with h | h
          · first | exact .inl h | exact .inr (.inl (by omega))
          · refine .inr (.inr ?_)
            rw [show e - 1 = N - 1 - r from by omega]
            exact h
        have HF : Hid (∀ d1, IsRot r m e d d1 → RotF key a r mid e b d d1) := fun d1 h => by
          have h := rot_facts (a := a) (b := b) hra hrm hme heb hb HS1.out HS2.out hA hB h
          rw [hmid2] at h
          exact h
        clear he hA hB HI hls
        by_cases q1 : r < m ∧ m < e
        · have f1 : (r : Int) < (m : Int) := by omega
          have f2 : (m : Int) < (e : Int) := by omega
          have K := rotate_I g cb blk off cap r m e d0 d w0 wr R hs S1.out q1.1 q1.2 (by omega) hsz
          clear S1
          go_wp2_with fail
          refine K.mono ?_
          rintro e1 w1 ⟨rfl, d1, hr1, S⟩
          have SD : Aside (SW (Value.int .i64) w0 blk off d1 w1) := S
          have H1 := Lib.hid (HF.out d1 hr1)
          have hd1 : d1.size = d.size := hr1.1
          clear S K HF hr1
          by_cases q2 : a < r ∧ r < mid
          · have g1 : (a : Int) < (r : Int) := by omega
            have g2 : (r : Int) < (mid : Int) := by omega
            have K := IH.out a r mid d1 w1 (by omega) q2.1 q2.2 (by omega) (by omega) SD.out H1.out.2.1 H1.out.2.2.1
            clear SD
            go_wp2_with fail
            refine K.mono ?_
            rintro e2 w2 ⟨rfl, d2, m2, s2, S⟩
            have SD : Aside (SW (Value.int .i64) w0 blk off d2 w2) := S
            have H2 := Lib.hid (And.intro m2 s2)
            have hd2 : d2.size = d.size := m2.stb.1.trans hd1
            clear S K m2 s2
            try (exfalso; omega)
            all_goals (
              have hs3 : Srt key mid e d2 := H1.out.2.2.2.1.of fun i i1 i2 => H2.out.1.out i (.inr i1)
              have hs4 : Srt key e b d2 := H1.out.2.2.2.2.1.of fun i i1 i2 => H2.out.1.out i (.inr (by omega))
              by_cases q5 : mid < e ∧ e < b
              · have k1 : (mid : Int) < (e : Int) := by omega
                have k2 : (e : Int) < (b : Int) := by omega
                have K := IH.out mid e b d2 w2 (by omega) q5.1 q5.2 (by omega) (by omega) SD.out hs3 hs4
                have hs3' := Lib.hid hs3
                clear SD hs3 hs4
                go_wp2_with fail
                refine K.mono ?_
                rintro e3 w3 ⟨rfl, d3, m3, s3, S⟩
                have SD : Aside (SW (Value.int .i64) w0 blk off d3 w3) := S
                have H3 := Lib.hid (And.intro m3 s3)
                clear S K m3 s3
                try (exfalso; omega)
                all_goals (
                  go_wp2
                  go_end0
                  obtain ⟨x1, x2⟩ := merge_join (by omega) (by omega) H1.out.2.2.2.2.2 H2.out.1 H2.out.2 H3.out.1 H3.out.2
                  exact ⟨rfl, d3, H1.out.1.trans x1, x2, SD.out⟩)
              · have hsl : Srt key mid b d2 := by
                  by_cases q : mid < e
                  · rwa [show e = b from by omega] at hs3
                  · rwa [show e = mid from by omega] at hs4
                have H3 := Lib.hid hsl
                clear hs3 hs4 hsl
                by_cases q6 : mid < e
                · have k1 : (mid : Int) < (e : Int) := by omega
                  have k2 : ¬ (e : Int) < (b : Int) := by omega
                  try (exfalso; omega)
                  all_goals (
                    go_wp2
                    go_end0
                    obtain ⟨x1, x2⟩ := merge_join (by omega) (by omega) H1.out.2.2.2.2.2 H2.out.1 H2.out.2 (.refl _ _ _ _) H3.out
                    exact ⟨rfl, d2, H1.out.1.trans x1, x2, SD.out⟩)
                · have k1 : ¬ (mid : Int) < (e : Int) := by omega
                  try (exfalso; omega)
                  all_goals (
                    go_wp2
                    go_end0
                    obtain ⟨x1, x2⟩ := merge_join (by omega) (by omega) H1.out.2.2.2.2.2 H2.out.1 H2.out.2 (.refl _ _ _ _) H3.out
                    exact ⟨rfl, d2, H1.out.1.trans x1, x2, SD.out⟩))
          · have g1 : ¬ ((a : Int) < (r : Int) ∧ (r : Int) < (mid : Int)) := by omega
            obtain ⟨d2, hdd, H2, SE, hd2⟩ : ∃ d2, d2 = d1 ∧ Hid (Mrg key a mid d1 d2 ∧ Srt key a mid d2) ∧ Aside (SW (Value.int .i64) w0 blk off d2 w1) ∧ d2.size = d.size := ⟨d1, rfl, ⟨.refl _ _ _ _, by
              by_cases q : a < r
              · have := H1.out.2.1
                rwa [show r = mid from by omega] at this
              · have := H1.out.2.2.1
                rwa [show r = a from by omega] at this⟩, SD, hd1⟩
            clear hdd SD
            have SD := SE
            clear SE
            by_cases q3 : a < r
            · have g2 : (a : Int) < (r : Int) := by omega
              have g3 : ¬ (r : Int) < (mid : Int) := by omega
              try (exfalso; omega)
              all_goals (
                have hs3 : Srt key mid e d2 := H1.out.2.2.2.1.of fun i i1 i2 => H2.out.1.out i (.inr i1)
                have hs4 : Srt key e b d2 := H1.out.2.2.2.2.1.of fun i i1 i2 => H2.out.1.out i (.inr (by omega))
                by_cases q5 : mid < e ∧ e < b
                · have k1 : (mid : Int) < (e : Int) := by omega
                  have k2 : (e : Int) < (b : Int) := by omega
                  have K := IH.out mid e b d2 w1 (by omega) q5.1 q5.2 (by omega) (by omega) SD.out hs3 hs4
                  have hs3' := Lib.hid hs3
                  clear SD hs3 hs4
                  go_wp2_with fail
                  refine K.mono ?_
                  rintro e3 w3 ⟨rfl, d3, m3, s3, S⟩
                  have SD : Aside (SW (Value.int .i64) w0 blk off d3 w3) := S
                  have H3 := Lib.hid (And.intro m3 s3)
                  clear S K m3 s3
                  try (exfalso; omega)
                  all_goals (
                    go_wp2
                    go_end0
                    obtain ⟨x1, x2⟩ := merge_join (by omega) (by omega) H1.out.2.2.2.2.2 H2.out.1 H2.out.2 H3.out.1 H3.out.2
                    exact ⟨rfl, d3, H1.out.1.trans x1, x2, SD.out⟩)
                · have hsl : Srt key mid b d2 := by
                    by_cases q : mid < e
                    · rwa [show e = b from by omega] at hs3
                    · rwa [show e = mid from by omega] at hs4
                  have H3 := Lib.hid hsl
                  clear hs3 hs4 hsl
                  by_cases q6 : mid < e
                  · have k1 : (mid : Int) < (e : Int) := by omega
                    have k2 : ¬ (e : Int) < (b : Int) := by omega
                    try (exfalso; omega)
                    all_goals (
                      go_wp2
                      go_end0
                      obtain ⟨x1, x2⟩ := merge_join (by omega) (by omega) H1.out.2.2.2.2.2 H2.out.1 H2.out.2 (.refl _ _ _ _) H3.out
                      exact ⟨rfl, d2, H1.out.1.trans x1, x2, SD.out⟩)
                  · have k1 : ¬ (mid : Int) < (e : Int) := by omega
                    try (exfalso; omega)
                    all_goals (
                      go_wp2
                      go_end0
                      obtain ⟨x1, x2⟩ := merge_join (by omega) (by omega) H1.out.2.2.2.2.2 H2.out.1 H2.out.2 (.refl _ _ _ _) H3.out
                      exact ⟨rfl, d2, H1.out.1.trans x1, x2, SD.out⟩))
            · have g2 : ¬ (a : Int) < (r : Int) := by omega
              try (exfalso; omega)
              all_goals (
                have hs3 : Srt key mid e d2 := H1.out.2.2.2.1.of fun i i1 i2 => H2.out.1.out i (.inr i1)
                have hs4 : Srt key e b d2 := H1.out.2.2.2.2.1.of fun i i1 i2 => H2.out.1.out i (.inr (by omega))
                by_cases q5 : mid < e ∧ e < b
                · have k1 : (mid : Int) < (e : Int) := by omega
                  have k2 : (e : Int) < (b : Int) := by omega
                  have K := IH.out mid e b d2 w1 (by omega) q5.1 q5.2 (by omega) (by omega) SD.out hs3 hs4
                  have hs3' := Lib.hid hs3
                  clear SD hs3 hs4
                  go_wp2_with fail
                  refine K.mono ?_
                  rintro e3 w3 ⟨rfl, d3, m3, s3, S⟩
                  have SD : Aside (SW (Value.int .i64) w0 blk off d3 w3) := S
                  have H3 := Lib.hid (And.intro m3 s3)
                  clear S K m3 s3
                  try (exfalso; omega)
                  all_goals (
                    go_wp2
                    go_end0
                    obtain ⟨x1, x2⟩ := merge_join (by omega) (by omega) H1.out.2.2.2.2.2 H2.out.1 H2.out.2 H3.out.1 H3.out.2
                    exact ⟨rfl, d3, H1.out.1.trans x1, x2, SD.out⟩)
                · have hsl : Srt key mid b d2 := by
                    by_cases q : mid < e
                    · rwa [show e = b from by omega] at hs3
                    · rwa [show e = mid from by omega] at hs4
                  have H3 := Lib.hid hsl
                  clear hs3 hs4 hsl
                  by_cases q6 : mid < e
                  · have k1 : (mid : Int) < (e : Int) := by omega
                    have k2 : ¬ (e : Int) < (b : Int) := by omega
                    try (exfalso; omega)
                    all_goals (
                      go_wp2
                      go_end0
                      obtain ⟨x1, x2⟩ := merge_join (by omega) (by omega) H1.out.2.2.2.2.2 H2.out.1 H2.out.2 (.refl _ _ _ _) H3.out
                      exact ⟨rfl, d2, H1.out.1.trans x1, x2, SD.out⟩)
                  · have k1 : ¬ (mid : Int) < (e : Int) := by omega
                    try (exfalso; omega)
                    all_goals (
                      go_wp2
                      go_end0
                      obtain ⟨x1, x2⟩ := merge_join (by omega) (by omega) H1.out.2.2.2.2.2 H2.out.1 H2.out.2 (.refl _ _ _ _) H3.out
                      exact ⟨rfl, d2, H1.out.1.trans x1, x2, SD.out⟩))
        · have f1 : ¬ ((r : Int) < (m : Int) ∧ (m : Int) < (e : Int)) := by omega
          obtain ⟨d1, hdd, H1, SD, hd1⟩ : ∃ d1, d1 = d ∧ Hid (RotF key a r mid e b d d1) ∧ Aside (SW (Value.int .i64) w0 blk off d1 wr) ∧ d1.size = d.size := ⟨d, rfl, HF.out d (by
            by_cases q : r = m
            · subst q; exact IsRot.nil' d
            · obtain rfl : e = m := by omega
              exact IsRot.nil d), S1, rfl⟩
          clear hdd HF S1
          by_cases q0 : r < m
          · have f2 : (r : Int) < (m : Int) := by omega
            have f3 : ¬ (m : Int) < (e : Int) := by omega
            by_cases q2 : a < r ∧ r < mid
            · have g1 : (a : Int) < (r : Int) := by omega
              have g2 : (r : Int) < (mid : Int) := by omega
              have K := IH.out a r mid d1 wr (by omega) q2.1 q2.2 (by omega) (by omega) SD.out H1.out.2.1 H1.out.2.2.1
              clear SD
              go_wp2_with fail
              refine K.mono ?_
              rintro e2 w2 ⟨rfl, d2, m2, s2, S⟩
              have SD : Aside (SW (Value.int .i64) w0 blk off d2 w2) := S
              have H2 := Lib.hid (And.intro m2 s2)
              have hd2 : d2.size = d.size := m2.stb.1.trans hd1
              clear S K m2 s2
              try (exfalso; omega)
              all_goals (
                have hs3 : Srt key mid e d2 := H1.out.2.2.2.1.of fun i i1 i2 => H2.out.1.out i (.inr i1)
                have hs4 : Srt key e b d2 := H1.out.2.2.2.2.1.of fun i i1 i2 => H2.out.1.out i (.inr (by omega))
                by_cases q5 : mid < e ∧ e < b
                · have k1 : (mid : Int) < (e : Int) := by omega
                  have k2 : (e : Int) < (b : Int) := by omega
                  have K := IH.out mid e b d2 w2 (by omega) q5.1 q5.2 (by omega) (by omega) SD.out hs3 hs4
                  have hs3' := Lib.hid hs3
                  clear SD hs3 hs4
                  go_wp2_with fail
                  refine K.mono ?_
                  rintro e3 w3 ⟨rfl, d3, m3, s3, S⟩
                  have SD : Aside (SW (Value.int .i64) w0 blk off d3 w3) := S
                  have H3 := Lib.hid (And.intro m3 s3)
                  clear S K m3 s3
                  try (exfalso; omega)
                  all_goals (
                    go_wp2
                    go_end0
                    obtain ⟨x1, x2⟩ := merge_join (by omega) (by omega) H1.out.2.2.2.2.2 H2.out.1 H2.out.2 H3.out.1 H3.out.2
                    exact ⟨rfl, d3, H1.out.1.trans x1, x2, SD.out⟩)
                · have hsl : Srt key mid b d2 := by
                    by_cases q : mid < e
                    · rwa [show e = b from by omega] at hs3
                    · rwa [show e = mid from by omega] at hs4
                  have H3 := Lib.hid hsl
                  clear hs3 hs4 hsl
                  by_cases q6 : mid < e
                  · have k1 : (mid : Int) < (e : Int) := by omega
                    have k2 : ¬ (e : Int) < (b : Int) := by omega
                    try (exfalso; omega)
                    all_goals (
                      go_wp2
                      go_end0
                      obtain ⟨x1, x2⟩ := merge_join (by omega) (by omega) H1.out.2.2.2.2.2 H2.out.1 H2.out.2 (.refl _ _ _ _) H3.out
                      exact ⟨rfl, d2, H1.out.1.trans x1, x2, SD.out⟩)
                  · have k1 : ¬ (mid : Int) < (e : Int) := by omega
                    try (exfalso; omega)
                    all_goals (
                      go_wp2
                      go_end0
                      obtain ⟨x1, x2⟩ := merge_join (by omega) (by omega) H1.out.2.2.2.2.2 H2.out.1 H2.out.2 (.refl _ _ _ _) H3.out
                      exact ⟨rfl, d2, H1.out.1.trans x1, x2, SD.out⟩))
            · have g1 : ¬ ((a : Int) < (r : Int) ∧ (r : Int) < (mid : Int)) := by omega
              obtain ⟨d2, hdd, H2, SE, hd2⟩ : ∃ d2, d2 = d1 ∧ Hid (Mrg key a mid d1 d2 ∧ Srt key a mid d2) ∧ Aside (SW (Value.int .i64) w0 blk off d2 wr) ∧ d2.size = d.size := ⟨d1, rfl, ⟨.refl _ _ _ _, by
                by_cases q : a < r
                · have := H1.out.2.1
                  rwa [show r = mid from by omega] at this
                · have := H1.out.2.2.1
                  rwa [show r = a from by omega] at this⟩, SD, hd1⟩
              clear hdd SD
              have SD := SE
              clear SE
              by_cases q3 : a < r
              · have g2 : (a : Int) < (r : Int) := by omega
                have g3 : ¬ (r : Int) < (mid : Int) := by omega
                try (exfalso; omega)
                all_goals (
                  have hs3 : Srt key mid e d2 := H1.out.2.2.2.1.of fun i i1 i2 => H2.out.1.out i (.inr i1)
                  have hs4 : Srt key e b d2 := H1.out.2.2.2.2.1.of fun i i1 i2 => H2.out.1.out i (.inr (by omega))
                  by_cases q5 : mid < e ∧ e < b
                  · have k1 : (mid : Int) < (e : Int) := by omega
                    have k2 : (e : Int) < (b : Int) := by omega
                    have K := IH.out mid e b d2 wr (by omega) q5.1 q5.2 (by omega) (by omega) SD.out hs3 hs4
                    have hs3' := Lib.hid hs3
                    clear SD hs3 hs4
                    go_wp2_with fail
                    refine K.mono ?_
                    rintro e3 w3 ⟨rfl, d3, m3, s3, S⟩
                    have SD : Aside (SW (Value.int .i64) w0 blk off d3 w3) := S
                    have H3 := Lib.hid (And.intro m3 s3)
                    clear S K m3 s3
                    try (exfalso; omega)
                    all_goals (
                      go_wp2
                      go_end0
                      obtain ⟨x1, x2⟩ := merge_join (by omega) (by omega) H1.out.2.2.2.2.2 H2.out.1 H2.out.2 H3.out.1 H3.out.2
                      exact ⟨rfl, d3, H1.out.1.trans x1, x2, SD.out⟩)
                  · have hsl : Srt key mid b d2 := by
                      by_cases q : mid < e
                      · rwa [show e = b from by omega] at hs3
                      · rwa [show e = mid from by omega] at hs4
                    have H3 := Lib.hid hsl
                    clear hs3 hs4 hsl
                    by_cases q6 : mid < e
                    · have k1 : (mid : Int) < (e : Int) := by omega
                      have k2 : ¬ (e : Int) < (b : Int) := by omega
                      try (exfalso; omega)
                      all_goals (
                        go_wp2
                        go_end0
                        obtain ⟨x1, x2⟩ := merge_join (by omega) (by omega) H1.out.2.2.2.2.2 H2.out.1 H2.out.2 (.refl _ _ _ _) H3.out
                        exact ⟨rfl, d2, H1.out.1.trans x1, x2, SD.out⟩)
                    · have k1 : ¬ (mid : Int) < (e : Int) := by omega
                      try (exfalso; omega)
                      all_goals (
                        go_wp2
                        go_end0
                        obtain ⟨x1, x2⟩ := merge_join (by omega) (by omega) H1.out.2.2.2.2.2 H2.out.1 H2.out.2 (.refl _ _ _ _) H3.out
                        exact ⟨rfl, d2, H1.out.1.trans x1, x2, SD.out⟩))
              · have g2 : ¬ (a : Int) < (r : Int) := by omega
                try (exfalso; omega)
                all_goals (
                  have hs3 : Srt key mid e d2 := H1.out.2.2.2.1.of fun i i1 i2 => H2.out.1.out i (.inr i1)
                  have hs4 : Srt key e b d2 := H1.out.2.2.2.2.1.of fun i i1 i2 => H2.out.1.out i (.inr (by omega))
                  by_cases q5 : mid < e ∧ e < b
                  · have k1 : (mid : Int) < (e : Int) := by omega
                    have k2 : (e : Int) < (b : Int) := by omega
                    have K := IH.out mid e b d2 wr (by omega) q5.1 q5.2 (by omega) (by omega) SD.out hs3 hs4
                    have hs3' := Lib.hid hs3
                    clear SD hs3 hs4
                    go_wp2_with fail
                    refine K.mono ?_
                    rintro e3 w3 ⟨rfl, d3, m3, s3, S⟩
                    have SD : Aside (SW (Value.int .i64) w0 blk off d3 w3) := S
                    have H3 := Lib.hid (And.intro m3 s3)
                    clear S K m3 s3
                    try (exfalso; omega)
                    all_goals (
                      go_wp2
                      go_end0
                      obtain ⟨x1, x2⟩ := merge_join (by omega) (by omega) H1.out.2.2.2.2.2 H2.out.1 H2.out.2 H3.out.1 H3.out.2
                      exact ⟨rfl, d3, H1.out.1.trans x1, x2, SD.out⟩)
                  · have hsl : Srt key mid b d2 := by
                      by_cases q : mid < e
                      · rwa [show e = b from by omega] at hs3
                      · rwa [show e = mid from by omega] at hs4
                    have H3 := Lib.hid hsl
                    clear hs3 hs4 hsl
                    by_cases q6 : mid < e
                    · have k1 : (mid : Int) < (e : Int) := by omega
                      have k2 : ¬ (e : Int) < (b : Int) := by omega
                      try (exfalso; omega)
                      all_goals (
                        go_wp2
                        go_end0
                        obtain ⟨x1, x2⟩ := merge_join (by omega) (by omega) H1.out.2.2.2.2.2 H2.out.1 H2.out.2 (.refl _ _ _ _) H3.out
                        exact ⟨rfl, d2, H1.out.1.trans x1, x2, SD.out⟩)
                    · have k1 : ¬ (mid : Int) < (e : Int) := by omega
                      try (exfalso; omega)
                      all_goals (
                        go_wp2
                        go_end0
                        obtain ⟨x1, x2⟩ := merge_join (by omega) (by omega) H1.out.2.2.2.2.2 H2.out.1 H2.out.2 (.refl _ _ _ _) H3.out
                        exact ⟨rfl, d2, H1.out.1.trans x1, x2, SD.out⟩))
          · have f2 : ¬ (r : Int) < (m : Int) := by omega
            by_cases q2 : a < r ∧ r < mid
            · have g1 : (a : Int) < (r : Int) := by omega
              have g2 : (r : Int) < (mid : Int) := by omega
              have K := IH.out a r mid d1 wr (by omega) q2.1 q2.2 (by omega) (by omega) SD.out H1.out.2.1 H1.out.2.2.1
              clear SD
              go_wp2_with fail
              refine K.mono ?_
              rintro e2 w2 ⟨rfl, d2, m2, s2, S⟩
              have SD : Aside (SW (Value.int .i64) w0 blk off d2 w2) := S
              have H2 := Lib.hid (And.intro m2 s2)
              have hd2 : d2.size = d.size := m2.stb.1.trans hd1
              clear S K m2 s2
              try (exfalso; omega)
              all_goals (
                have hs3 : Srt key mid e d2 := H1.out.2.2.2.1.of fun i i1 i2 => H2.out.1.out i (.inr i1)
                have hs4 : Srt key e b d2 := H1.out.2.2.2.2.1.of fun i i1 i2 => H2.out.1.out i (.inr (by omega))
                by_cases q5 : mid < e ∧ e < b
                · have k1 : (mid : Int) < (e : Int) := by omega
                  have k2 : (e : Int) < (b : Int) := by omega
                  have K := IH.out mid e b d2 w2 (by omega) q5.1 q5.2 (by omega) (by omega) SD.out hs3 hs4
                  have hs3' := Lib.hid hs3
                  clear SD hs3 hs4
                  go_wp2_with fail
                  refine K.mono ?_
                  rintro e3 w3 ⟨rfl, d3, m3, s3, S⟩
                  have SD : Aside (SW (Value.int .i64) w0 blk off d3 w3) := S
                  have H3 := Lib.hid (And.intro m3 s3)
                  clear S K m3 s3
                  try (exfalso; omega)
                  all_goals (
                    go_wp2
                    go_end0
                    obtain ⟨x1, x2⟩ := merge_join (by omega) (by omega) H1.out.2.2.2.2.2 H2.out.1 H2.out.2 H3.out.1 H3.out.2
                    exact ⟨rfl, d3, H1.out.1.trans x1, x2, SD.out⟩)
                · have hsl : Srt key mid b d2 := by
                    by_cases q : mid < e
                    · rwa [show e = b from by omega] at hs3
                    · rwa [show e = mid from by omega] at hs4
                  have H3 := Lib.hid hsl
                  clear hs3 hs4 hsl
                  by_cases q6 : mid < e
                  · have k1 : (mid : Int) < (e : Int) := by omega
                    have k2 : ¬ (e : Int) < (b : Int) := by omega
                    try (exfalso; omega)
                    all_goals (
                      go_wp2
                      go_end0
                      obtain ⟨x1, x2⟩ := merge_join (by omega) (by omega) H1.out.2.2.2.2.2 H2.out.1 H2.out.2 (.refl _ _ _ _) H3.out
                      exact ⟨rfl, d2, H1.out.1.trans x1, x2, SD.out⟩)
                  · have k1 : ¬ (mid : Int) < (e : Int) := by omega
                    try (exfalso; omega)
                    all_goals (
                      go_wp2
                      go_end0
                      obtain ⟨x1, x2⟩ := merge_join (by omega) (by omega) H1.out.2.2.2.2.2 H2.out.1 H2.out.2 (.refl _ _ _ _) H3.out
                      exact ⟨rfl, d2, H1.out.1.trans x1, x2, SD.out⟩))
            · have g1 : ¬ ((a : Int) < (r : Int) ∧ (r : Int) < (mid : Int)) := by omega
              obtain ⟨d2, hdd, H2, SE, hd2⟩ : ∃ d2, d2 = d1 ∧ Hid (Mrg key a mid d1 d2 ∧ Srt key a mid d2) ∧ Aside (SW (Value.int .i64) w0 blk off d2 wr) ∧ d2.size = d.size := ⟨d1, rfl, ⟨.refl _ _ _ _, by
                by_cases q : a < r
                · have := H1.out.2.1
                  rwa [show r = mid from by omega] at this
                · have := H1.out.2.2.1
                  rwa [show r = a from by omega] at this⟩, SD, hd1⟩
              clear hdd SD
              have SD := SE
              clear SE
              by_cases q3 : a < r
              · have g2 : (a : Int) < (r : Int) := by omega
                have g3 : ¬ (r : Int) < (mid : Int) := by omega
                try (exfalso; omega)
                all_goals (
                  have hs3 : Srt key mid e d2 := H1.out.2.2.2.1.of fun i i1 i2 => H2.out.1.out i (.inr i1)
                  have hs4 : Srt key e b d2 := H1.out.2.2.2.2.1.of fun i i1 i2 => H2.out.1.out i (.inr (by omega))
                  by_cases q5 : mid < e ∧ e < b
                  · have k1 : (mid : Int) < (e : Int) := by omega
                    have k2 : (e : Int) < (b : Int) := by omega
                    have K := IH.out mid e b d2 wr (by omega) q5.1 q5.2 (by omega) (by omega) SD.out hs3 hs4
                    have hs3' := Lib.hid hs3
                    clear SD hs3 hs4
                    go_wp2_with fail
                    refine K.mono ?_
                    rintro e3 w3 ⟨rfl, d3, m3, s3, S⟩
                    have SD : Aside (SW (Value.int .i64) w0 blk off d3 w3) := S
                    have H3 := Lib.hid (And.intro m3 s3)
                    clear S K m3 s3
                    try (exfalso; omega)
                    all_goals (
                      go_wp2
                      go_end0
                      obtain ⟨x1, x2⟩ := merge_join (by omega) (by omega) H1.out.2.2.2.2.2 H2.out.1 H2.out.2 H3.out.1 H3.out.2
                      exact ⟨rfl, d3, H1.out.1.trans x1, x2, SD.out⟩)
                  · have hsl : Srt key mid b d2 := by
                      by_cases q : mid < e
                      · rwa [show e = b from by omega] at hs3
                      · rwa [show e = mid from by omega] at hs4
                    have H3 := Lib.hid hsl
                    clear hs3 hs4 hsl
                    by_cases q6 : mid < e
                    · have k1 : (mid : Int) < (e : Int) := by omega
                      have k2 : ¬ (e : Int) < (b : Int) := by omega
                      try (exfalso; omega)
                      all_goals (
                        go_wp2
                        go_end0
                        obtain ⟨x1, x2⟩ := merge_join (by omega) (by omega) H1.out.2.2.2.2.2 H2.out.1 H2.out.2 (.refl _ _ _ _) H3.out
                        exact ⟨rfl, d2, H1.out.1.trans x1, x2, SD.out⟩)
                    · have k1 : ¬ (mid : Int) < (e : Int) := by omega
                      try (exfalso; omega)
                      all_goals (
                        go_wp2
                        go_end0
                        obtain ⟨x1, x2⟩ := merge_join (by omega) (by omega) H1.out.2.2.2.2.2 H2.out.1 H2.out.2 (.refl _ _ _ _) H3.out
                        exact ⟨rfl, d2, H1.out.1.trans x1, x2, SD.out⟩))
              · have g2 : ¬ (a : Int) < (r : Int) := by omega
                try (exfalso; omega)
                all_goals (
                  have hs3 : Srt key mid e d2 := H1.out.2.2.2.1.of fun i i1 i2 => H2.out.1.out i (.inr i1)
                  have hs4 : Srt key e b d2 := H1.out.2.2.2.2.1.of fun i i1 i2 => H2.out.1.out i (.inr (by omega))
                  by_cases q5 : mid < e ∧ e < b
                  · have k1 : (mid : Int) < (e : Int) := by omega
                    have k2 : (e : Int) < (b : Int) := by omega
                    have K := IH.out mid e b d2 wr (by omega) q5.1 q5.2 (by omega) (by omega) SD.out hs3 hs4
                    have hs3' := Lib.hid hs3
                    clear SD hs3 hs4
                    go_wp2_with fail
                    refine K.mono ?_
                    rintro e3 w3 ⟨rfl, d3, m3, s3, S⟩
                    have SD : Aside (SW (Value.int .i64) w0 blk off d3 w3) := S
                    have H3 := Lib.hid (And.intro m3 s3)
                    clear S K m3 s3
                    try (exfalso; omega)
                    all_goals (
                      go_wp2
                      go_end0
                      obtain ⟨x1, x2⟩ := merge_join (by omega) (by omega) H1.out.2.2.2.2.2 H2.out.1 H2.out.2 H3.out.1 H3.out.2
                      exact ⟨rfl, d3, H1.out.1.trans x1, x2, SD.out⟩)
                  · have hsl : Srt key mid b d2 := by
                      by_cases q : mid < e
                      · rwa [show e = b from by omega] at hs3
                      · rwa [show e = mid from by omega] at hs4
                    have H3 := Lib.hid hsl
                    clear hs3 hs4 hsl
                    by_cases q6 : mid < e
                    · have k1 : (mid : Int) < (e : Int) := by omega
                      have k2 : ¬ (e : Int) < (b : Int) := by omega
                      try (exfalso; omega)
                      all_goals (
                        go_wp2
                        go_end0
                        obtain ⟨x1, x2⟩ := merge_join (by omega) (by omega) H1.out.2.2.2.2.2 H2.out.1 H2.out.2 (.refl _ _ _ _) H3.out
                        exact ⟨rfl, d2, H1.out.1.trans x1, x2, SD.out⟩)
                    · have k1 : ¬ (mid : Int) < (e : Int) := by omega
                      try (exfalso; omega)
                      all_goals (
                        go_wp2
                        go_end0
                        obtain ⟨x1, x2⟩ := merge_join (by omega) (by omega) H1.out.2.2.2.2.2 H2.out.1 H2.out.2 (.refl _ _ _ _) H3.out
                        exact ⟨rfl, d2, H1.out.1.trans x1, x2, SD.out⟩))
  · have hab : decide ((m : Int) > (mid : Int)) = false := decide_eq_false (by omega)
    have hab2 : ¬ (mid : Int) < (m : Int) := by omega
    go_wp2
    go_loopg [20, 21] (m - a) (fun kx s20 s21 wr => ∃ (s r : Nat), s20 = .int .i64 s ∧ s21 = .int .i64 r ∧ a ≤ s ∧ s ≤ r ∧ r ≤ m ∧ r - s ≤ kx ∧ Aside (SW (Value.int .i64) w0 blk off d wr) ∧ Hid ((s = a ∨ ¬ key d[N - s]! < key d[s - 1]!) ∧ (r = m ∨ key d[N - 1 - r]! < key d[r]!)))
    case atStart => exact ⟨a, m, rfl, rfl, Nat.le_refl _, by omega, Nat.le_refl _, Nat.le_refl _, S0, (show Hid _ from ⟨.inl rfl, .inl rfl⟩)⟩
    case round =>
      clear S0
      obtain ⟨s, r, rfl, rfl, hls, hsr, hrr, hkx, S1, HI⟩ := hrel
      by_cases hlt : s < r
      · have hltz : (s : Int) < (r : Int) := by omega
        obtain ⟨c, hc⟩ : ∃ c, c = (s + r) / 2 := ⟨_, rfl⟩
        have zc : ((s : Int) + (r : Int)) / 2 = (c : Int) := by omega
        have c1 : s ≤ c := by omega
        have c2 : c < r := by omega
        clear hc
        obtain ⟨pc, hpc⟩ : ∃ t, t = p - c := ⟨_, rfl⟩
        have zpc : IntKind.i64.wrap ((p : Int) - (c : Int)) = (pc : Int) := by rw [IntKind.wrap_i64] <;> omega
        have hpc2 : pc + c = p := by omega
        clear hpc
        go_wp2_with fail
        by_cases hk : key d[pc]! < key d[c]!
        · obtain ⟨iN109, hiN109⟩ : ∃ q, q = pc := ⟨_, rfl⟩
          obtain ⟨jN109, hjN109⟩ : ∃ q, q = c := ⟨_, rfl⟩
          have ea109 : ((pc : Int)).toNat = iN109 := by omega
          have pa109 : (0 : Int) ≤ (pc : Int) := by omega
          have ba109 : (pc : Int) < (d.size : Int) := by omega
          have ra109 : IntKind.i64.wrap ((pc : Int)) = (pc : Int) := by rw [IntKind.wrap_i64]; omega
          have ec109 : ((c : Int)).toNat = jN109 := by omega
          have pc109 : (0 : Int) ≤ (c : Int) := by omega
          have bc109 : (c : Int) < (d.size : Int) := by omega
          have rc109 : IntKind.i64.wrap ((c : Int)) = (c : Int) := by rw [IntKind.wrap_i64]; omega
          obtain ⟨x109, hx109⟩ : ∃ x, x = d[pc]! := ⟨_, rfl⟩
          obtain ⟨y109, hy109⟩ : ∃ x, x = d[c]! := ⟨_, rfl⟩
          have l109a := S1.out.cl R (by omega) (pc) (by omega)
          have l109b := S1.out.cl R (by omega) (c) (by omega)
          rw [← hx109, ← hiN109] at l109a
          rw [← hy109, ← hjN109] at l109b
          have hc109 := S1.out.cmp HC.out (by omega) x109 y109
          have hv109 : cf x109 y109 < 0 := by rw [hx109, hy109]; exact (HCF.out _ _).2 hk
          have hd109 : decide (cf x109 y109 < 0) = true := decide_eq_true hv109
          clear hx109 hy109 hiN109 hjN109
          go_wp2_with fail
          go_quiet_grown (first | (go_at_fn g; refine Calls.grown_of (hc109 _ _)))
          have S2 : Aside (SW (Value.int .i64) w0 blk off d (grow (wr.drewN nq) osq)) := S1.out.grown nq osq
          clear l109a l109b hc109 S1
          generalize grow (wr.drewN nq) osq = w2 at S2 ⊢
          clear nq osq
          clear ea109 ec109
          go_wp2
          go_roundg (c - s)
          case measure => omega
          case rel => exact ⟨s, c, rfl, rfl, hls, c1, by omega, Nat.le_refl _, S2, (show Hid _ from ⟨HI.out.1, .inr (by rw [show N - 1 - c = pc from by omega]; exact hk)⟩)⟩
        · obtain ⟨iN110, hiN110⟩ : ∃ q, q = pc := ⟨_, rfl⟩
          obtain ⟨jN110, hjN110⟩ : ∃ q, q = c := ⟨_, rfl⟩
          have ea110 : ((pc : Int)).toNat = iN110 := by omega
          have pa110 : (0 : Int) ≤ (pc : Int) := by omega
          have ba110 : (pc : Int) < (d.size : Int) := by omega
          have ra110 : IntKind.i64.wrap ((pc : Int)) = (pc : Int) := by rw [IntKind.wrap_i64]; omega
          have ec110 : ((c : Int)).toNat = jN110 := by omega
          have pc110 : (0 : Int) ≤ (c : Int) := by omega
          have bc110 : (c : Int) < (d.size : Int) := by omega
          have rc110 : IntKind.i64.wrap ((c : Int)) = (c : Int) := by rw [IntKind.wrap_i64]; omega
          obtain ⟨x110, hx110⟩ : ∃ x, x = d[pc]! := ⟨_, rfl⟩
          obtain ⟨y110, hy110⟩ : ∃ x, x = d[c]! := ⟨_, rfl⟩
          have l110a := S1.out.cl R (by omega) (pc) (by omega)
          have l110b := S1.out.cl R (by omega) (c) (by omega)
          rw [← hx110, ← hiN110] at l110a
          rw [← hy110, ← hjN110] at l110b
          have hc110 := S1.out.cmp HC.out (by omega) x110 y110
          have hv110 : ¬ cf x110 y110 < 0 := by rw [hx110, hy110]; exact fun h => hk ((HCF.out _ _).1 h)
          have hd110 : decide (cf x110 y110 < 0) = false := decide_eq_false hv110
          clear hx110 hy110 hiN110 hjN110
          go_wp2_with fail
          go_quiet_grown (first | (go_at_fn g; refine Calls.grown_of (hc110 _ _)))
          have S2 : Aside (SW (Value.int .i64) w0 blk off d (grow (wr.drewN nq) osq)) := S1.out.grown nq osq
          clear l110a l110b hc110 S1
          generalize grow (wr.drewN nq) osq = w2 at S2 ⊢
          clear nq osq
          clear ea110 ec110
          go_wp2
          go_roundg (r - (c + 1))
          case measure => omega
          case rel => exact ⟨c + 1, r, by go_num, rfl, by omega, by omega, hrr, Nat.le_refl _, S2, (show Hid _ from ⟨.inr (by rw [Nat.add_sub_cancel, show N - (c + 1) = pc from by omega]; exact hk), HI.out.2⟩)⟩
      · have hltz : ¬ (s : Int) < (r : Int) := by omega
        obtain rfl : r = s := by omega
        obtain ⟨e, he⟩ : ∃ e, e = N - r := ⟨_, rfl⟩
        have ze : IntKind.i64.wrap ((N : Int) - (r : Int)) = (e : Int) := by rw [IntKind.wrap_i64] <;> omega
        have her : e + r = N := by omega
        have hra : a ≤ r := by omega
        have hrm : r ≤ m := by omega
        have hme : m ≤ e := by omega
        have heb : e ≤ b := by omega
        have hmid2 : r + (e - m) = mid := by omega
        have hA : r = a ∨ e = b ∨ key d[r - 1]! ≤ key d[e]! := by
          rcases HI.out.1 with h | h
          · first | exact .inl h | exact .inr (.inl (by omega))
          · refine .inr (.inr ?_)
            rw [← he] at h
            omega
        have hB : r = m ∨ e = m ∨ key d[e - 1]! < key d[r]! := by
          rcases HI.out.2 with h | h
          · first | exact .inl h | exact .inr (.inl (by omega))
          · refine .inr (.inr ?_)
            rw [show e - 1 = N - 1 - r from by omega]
            exact h
        have HF : Hid (∀ d1, IsRot r m e d d1 → RotF key a r mid e b d d1) := fun d1 h => by
          have h := rot_facts (a := a) (b := b) hra hrm hme heb hb HS1.out HS2.out hA hB h
          rw [hmid2] at h
          exact h
        clear he hA hB HI hls
        by_cases q1 : r < m ∧ m < e
        · have f1 : (r : Int) < (m : Int) := by omega
          have f2 : (m : Int) < (e : Int) := by omega
          have K := rotate_I g cb blk off cap r m e d0 d w0 wr R hs S1.out q1.1 q1.2 (by omega) hsz
          clear S1
          go_wp2_with fail
          refine K.mono ?_
          rintro e1 w1 ⟨rfl, d1, hr1, S⟩
          have SD : Aside (SW (Value.int .i64) w0 blk off d1 w1) := S
          have H1 := Lib.hid (HF.out d1 hr1)
          have hd1 : d1.size = d.size := hr1.1
          clear S K HF hr1
          by_cases q2 : a < r ∧ r < mid
          · have g1 : (a : Int) < (r : Int) := by omega
            have g2 : (r : Int) < (mid : Int) := by omega
            have K := IH.out a r mid d1 w1 (by omega) q2.1 q2.2 (by omega) (by omega) SD.out H1.out.2.1 H1.out.2.2.1
            clear SD
            go_wp2_with fail
            refine K.mono ?_
            rintro e2 w2 ⟨rfl, d2, m2, s2, S⟩
            have SD : Aside (SW (Value.int .i64) w0 blk off d2 w2) := S
            have H2 := Lib.hid (And.intro m2 s2)
            have hd2 : d2.size = d.size := m2.stb.1.trans hd1
            clear S K m2 s2
            try (exfalso; omega)
            all_goals (
              have hs3 : Srt key mid e d2 := H1.out.2.2.2.1.of fun i i1 i2 => H2.out.1.out i (.inr i1)
              have hs4 : Srt key e b d2 := H1.out.2.2.2.2.1.of fun i i1 i2 => H2.out.1.out i (.inr (by omega))
              by_cases q5 : mid < e ∧ e < b
              · have k1 : (mid : Int) < (e : Int) := by omega
                have k2 : (e : Int) < (b : Int) := by omega
                have K := IH.out mid e b d2 w2 (by omega) q5.1 q5.2 (by omega) (by omega) SD.out hs3 hs4
                have hs3' := Lib.hid hs3
                clear SD hs3 hs4
                go_wp2_with fail
                refine K.mono ?_
                rintro e3 w3 ⟨rfl, d3, m3, s3, S⟩
                have SD : Aside (SW (Value.int .i64) w0 blk off d3 w3) := S
                have H3 := Lib.hid (And.intro m3 s3)
                clear S K m3 s3
                try (exfalso; omega)
                all_goals (
                  go_wp2
                  go_end0
                  obtain ⟨x1, x2⟩ := merge_join (by omega) (by omega) H1.out.2.2.2.2.2 H2.out.1 H2.out.2 H3.out.1 H3.out.2
                  exact ⟨rfl, d3, H1.out.1.trans x1, x2, SD.out⟩)
              · have hsl : Srt key mid b d2 := by
                  by_cases q : mid < e
                  · rwa [show e = b from by omega] at hs3
                  · rwa [show e = mid from by omega] at hs4
                have H3 := Lib.hid hsl
                clear hs3 hs4 hsl
                by_cases q6 : mid < e
                · have k1 : (mid : Int) < (e : Int) := by omega
                  have k2 : ¬ (e : Int) < (b : Int) := by omega
                  try (exfalso; omega)
                  all_goals (
                    go_wp2
                    go_end0
                    obtain ⟨x1, x2⟩ := merge_join (by omega) (by omega) H1.out.2.2.2.2.2 H2.out.1 H2.out.2 (.refl _ _ _ _) H3.out
                    exact ⟨rfl, d2, H1.out.1.trans x1, x2, SD.out⟩)
                · have k1 : ¬ (mid : Int) < (e : Int) := by omega
                  try (exfalso; omega)
                  all_goals (
                    go_wp2
                    go_end0
                    obtain ⟨x1, x2⟩ := merge_join (by omega) (by omega) H1.out.2.2.2.2.2 H2.out.1 H2.out.2 (.refl _ _ _ _) H3.out
                    exact ⟨rfl, d2, H1.out.1.trans x1, x2, SD.out⟩))
          · have g1 : ¬ ((a : Int) < (r : Int) ∧ (r : Int) < (mid : Int)) := by omega
            obtain ⟨d2, hdd, H2, SE, hd2⟩ : ∃ d2, d2 = d1 ∧ Hid (Mrg key a mid d1 d2 ∧ Srt key a mid d2) ∧ Aside (SW (Value.int .i64) w0 blk off d2 w1) ∧ d2.size = d.size := ⟨d1, rfl, ⟨.refl _ _ _ _, by
              by_cases q : a < r
              · have := H1.out.2.1
                rwa [show r = mid from by omega] at this
              · have := H1.out.2.2.1
                rwa [show r = a from by omega] at this⟩, SD, hd1⟩
            clear hdd SD
            have SD := SE
            clear SE
            by_cases q3 : a < r
            · have g2 : (a : Int) < (r : Int) := by omega
              have g3 : ¬ (r : Int) < (mid : Int) := by omega
              try (exfalso; omega)
              all_goals (
                have hs3 : Srt key mid e d2 := H1.out.2.2.2.1.of fun i i1 i2 => H2.out.1.out i (.inr i1)
                have hs4 : Srt key e b d2 := H1.out.2.2.2.2.1.of fun i i1 i2 => H2.out.1.out i (.inr (by omega))
                by_cases q5 : mid < e ∧ e < b
                · have k1 : (mid : Int) < (e : Int) := by omega
                  have k2 : (e : Int) < (b : Int) := by omega
                  have K := IH.out mid e b d2 w1 (by omega) q5.1 q5.2 (by omega) (by omega) SD.out hs3 hs4
                  have hs3' := Lib.hid hs3
                  clear SD hs3 hs4
                  go_wp2_with fail
                  refine K.mono ?_
                  rintro e3 w3 ⟨rfl, d3, m3, s3, S⟩
                  have SD : Aside (SW (Value.int .i64) w0 blk off d3 w3) := S
                  have H3 := Lib.hid (And.intro m3 s3)
                  clear S K m3 s3
                  try (exfalso; omega)
                  all_goals (
                    go_wp2
                    go_end0
                    obtain ⟨x1, x2⟩ := merge_join (by omega) (by omega) H1.out.2.2.2.2.2 H2.out.1 H2.out.2 H3.out.1 H3.out.2
                    exact ⟨rfl, d3, H1.out.1.trans x1, x2, SD.out⟩)
                · have hsl : Srt key mid b d2 := by
                    by_cases q : mid < e
                    · rwa [show e = b from by omega] at hs3
                    · rwa [show e = mid from by omega] at hs4
                  have H3 := Lib.hid hsl
                  clear hs3 hs4 hsl
                  by_cases q6 : mid < e
                  · have k1 : (mid : Int) < (e : Int) := by omega
                    have k2 : ¬ (e : Int) < (b : Int) := by omega
                    try (exfalso; omega)
                    all_goals (
                      go_wp2
                      go_end0
                      obtain ⟨x1, x2⟩ := merge_join (by omega) (by omega) H1.out.2.2.2.2.2 H2.out.1 H2.out.2 (.refl _ _ _ _) H3.out
                      exact ⟨rfl, d2, H1.out.1.trans x1, x2, SD.out⟩)
                  · have k1 : ¬ (mid : Int) < (e : Int) := by omega
                    try (exfalso; omega)
                    all_goals (
                      go_wp2
                      go_end0
                      obtain ⟨x1, x2⟩ := merge_join (by omega) (by omega) H1.out.2.2.2.2.2 H2.out.1 H2.out.2 (.refl _ _ _ _) H3.out
                      exact ⟨rfl, d2, H1.out.1.trans x1, x2, SD.out⟩))
            · have g2 : ¬ (a : Int) < (r : Int) := by omega
              try (exfalso; omega)
              all_goals (
                have hs3 : Srt key mid e d2 := H1.out.2.2.2.1.of fun i i1 i2 => H2.out.1.out i (.inr i1)
                have hs4 : Srt key e b d2 := H1.out.2.2.2.2.1.of fun i i1 i2 => H2.out.1.out i (.inr (by omega))
                by_cases q5 : mid < e ∧ e < b
                · have k1 : (mid : Int) < (e : Int) := by omega
                  have k2 : (e : Int) < (b : Int) := by omega
                  have K := IH.out mid e b d2 w1 (by omega) q5.1 q5.2 (by omega) (by omega) SD.out hs3 hs4
                  have hs3' := Lib.hid hs3
                  clear SD hs3 hs4
                  go_wp2_with fail
                  refine K.mono ?_
                  rintro e3 w3 ⟨rfl, d3, m3, s3, S⟩
                  have SD : Aside (SW (Value.int .i64) w0 blk off d3 w3) := S
                  have H3 := Lib.hid (And.intro m3 s3)
                  clear S K m3 s3
                  try (exfalso; omega)
                  all_goals (
                    go_wp2
                    go_end0
                    obtain ⟨x1, x2⟩ := merge_join (by omega) (by omega) H1.out.2.2.2.2.2 H2.out.1 H2.out.2 H3.out.1 H3.out.2
                    exact ⟨rfl, d3, H1.out.1.trans x1, x2, SD.out⟩)
                · have hsl : Srt key mid b d2 := by
                    by_cases q : mid < e
                    · rwa [show e = b from by omega] at hs3
                    · rwa [show e = mid from by omega] at hs4
                  have H3 := Lib.hid hsl
                  clear hs3 hs4 hsl
                  by_cases q6 : mid < e
                  · have k1 : (mid : Int) < (e : Int) := by omega
                    have k2 : ¬ (e : Int) < (b : Int) := by omega
                    try (exfalso; omega)
                    all_goals (
                      go_wp2
                      go_end0
                      obtain ⟨x1, x2⟩ := merge_join (by omega) (by omega) H1.out.2.2.2.2.2 H2.out.1 H2.out.2 (.refl _ _ _ _) H3.out
                      exact ⟨rfl, d2, H1.out.1.trans x1, x2, SD.out⟩)
                  · have k1 : ¬ (mid : Int) < (e : Int) := by omega
                    try (exfalso; omega)
                    all_goals (
                      go_wp2
                      go_end0
                      obtain ⟨x1, x2⟩ := merge_join (by omega) (by omega) H1.out.2.2.2.2.2 H2.out.1 H2.out.2 (.refl _ _ _ _) H3.out
                      exact ⟨rfl, d2, H1.out.1.trans x1, x2, SD.out⟩))
        · have f1 : ¬ ((r : Int) < (m : Int) ∧ (m : Int) < (e : Int)) := by omega
          obtain ⟨d1, hdd, H1, SD, hd1⟩ : ∃ d1, d1 = d ∧ Hid (RotF key a r mid e b d d1) ∧ Aside (SW (Value.int .i64) w0 blk off d1 wr) ∧ d1.size = d.size := ⟨d, rfl, HF.out d (by
            by_cases q : r = m
            · subst q; exact IsRot.nil' d
            · obtain rfl : e = m := by omega
              exact IsRot.nil d), S1, rfl⟩
          clear hdd HF S1
          by_cases q0 : r < m
          · have f2 : (r : Int) < (m : Int) := by omega
            have f3 : ¬ (m : Int) < (e : Int) := by omega
            by_cases q2 : a < r ∧ r < mid
            · have g1 : (a : Int) < (r : Int) := by omega
              have g2 : (r : Int) < (mid : Int) := by omega
              have K := IH.out a r mid d1 wr (by omega) q2.1 q2.2 (by omega) (by omega) SD.out H1.out.2.1 H1.out.2.2.1
              clear SD
              go_wp2_with fail
              refine K.mono ?_
              rintro e2 w2 ⟨rfl, d2, m2, s2, S⟩
              have SD : Aside (SW (Value.int .i64) w0 blk off d2 w2) := S
              have H2 := Lib.hid (And.intro m2 s2)
              have hd2 : d2.size = d.size := m2.stb.1.trans hd1
              clear S K m2 s2
              try (exfalso; omega)
              all_goals (
                have hs3 : Srt key mid e d2 := H1.out.2.2.2.1.of fun i i1 i2 => H2.out.1.out i (.inr i1)
                have hs4 : Srt key e b d2 := H1.out.2.2.2.2.1.of fun i i1 i2 => H2.out.1.out i (.inr (by omega))
                by_cases q5 : mid < e ∧ e < b
                · have k1 : (mid : Int) < (e : Int) := by omega
                  have k2 : (e : Int) < (b : Int) := by omega
                  have K := IH.out mid e b d2 w2 (by omega) q5.1 q5.2 (by omega) (by omega) SD.out hs3 hs4
                  have hs3' := Lib.hid hs3
                  clear SD hs3 hs4
                  go_wp2_with fail
                  refine K.mono ?_
                  rintro e3 w3 ⟨rfl, d3, m3, s3, S⟩
                  have SD : Aside (SW (Value.int .i64) w0 blk off d3 w3) := S
                  have H3 := Lib.hid (And.intro m3 s3)
                  clear S K m3 s3
                  try (exfalso; omega)
                  all_goals (
                    go_wp2
                    go_end0
                    obtain ⟨x1, x2⟩ := merge_join (by omega) (by omega) H1.out.2.2.2.2.2 H2.out.1 H2.out.2 H3.out.1 H3.out.2
                    exact ⟨rfl, d3, H1.out.1.trans x1, x2, SD.out⟩)
                · have hsl : Srt key mid b d2 := by
                    by_cases q : mid < e
                    · rwa [show e = b from by omega] at hs3
                    · rwa [show e = mid from by omega] at hs4
                  have H3 := Lib.hid hsl
                  clear hs3 hs4 hsl
                  by_cases q6 : mid < e
                  · have k1 : (mid : Int) < (e : Int) := by omega
                    have k2 : ¬ (e : Int) < (b : Int) := by omega
                    try (exfalso; omega)
                    all_goals (
                      go_wp2
                      go_end0
                      obtain ⟨x1, x2⟩ := merge_join (by omega) (by omega) H1.out.2.2.2.2.2 H2.out.1 H2.out.2 (.refl _ _ _ _) H3.out
                      exact ⟨rfl, d2, H1.out.1.trans x1, x2, SD.out⟩)
                  · have k1 : ¬ (mid : Int) < (e : Int) := by omega
                    try (exfalso; omega)
                    all_goals (
                      go_wp2
                      go_end0
                      obtain ⟨x1, x2⟩ := merge_join (by omega) (by omega) H1.out.2.2.2.2.2 H2.out.1 H2.out.2 (.refl _ _ _ _) H3.out
                      exact ⟨rfl, d2, H1.out.1.trans x1, x2, SD.out⟩))
            · have g1 : ¬ ((a : Int) < (r : Int) ∧ (r : Int) < (mid : Int)) := by omega
              obtain ⟨d2, hdd, H2, SE, hd2⟩ : ∃ d2, d2 = d1 ∧ Hid (Mrg key a mid d1 d2 ∧ Srt key a mid d2) ∧ Aside (SW (Value.int .i64) w0 blk off d2 wr) ∧ d2.size = d.size := ⟨d1, rfl, ⟨.refl _ _ _ _, by
                by_cases q : a < r
                · have := H1.out.2.1
                  rwa [show r = mid from by omega] at this
                · have := H1.out.2.2.1
                  rwa [show r = a from by omega] at this⟩, SD, hd1⟩
              clear hdd SD
              have SD := SE
              clear SE
              by_cases q3 : a < r
              · have g2 : (a : Int) < (r : Int) := by omega
                have g3 : ¬ (r : Int) < (mid : Int) := by omega
                try (exfalso; omega)
                all_goals (
                  have hs3 : Srt key mid e d2 := H1.out.2.2.2.1.of fun i i1 i2 => H2.out.1.out i (.inr i1)
                  have hs4 : Srt key e b d2 := H1.out.2.2.2.2.1.of fun i i1 i2 => H2.out.1.out i (.inr (by omega))
                  by_cases q5 : mid < e ∧ e < b
                  · have k1 : (mid : Int) < (e : Int) := by omega
                    have k2 : (e : Int) < (b : Int) := by omega
                    have K := IH.out mid e b d2 wr (by omega) q5.1 q5.2 (by omega) (by omega) SD.out hs3 hs4
                    have hs3' := Lib.hid hs3
                    clear SD hs3 hs4
                    go_wp2_with fail
                    refine K.mono ?_
                    rintro e3 w3 ⟨rfl, d3, m3, s3, S⟩
                    have SD : Aside (SW (Value.int .i64) w0 blk off d3 w3) := S
                    have H3 := Lib.hid (And.intro m3 s3)
                    clear S K m3 s3
                    try (exfalso; omega)
                    all_goals (
                      go_wp2
                      go_end0
                      obtain ⟨x1, x2⟩ := merge_join (by omega) (by omega) H1.out.2.2.2.2.2 H2.out.1 H2.out.2 H3.out.1 H3.out.2
                      exact ⟨rfl, d3, H1.out.1.trans x1, x2, SD.out⟩)
                  · have hsl : Srt key mid b d2 := by
                      by_cases q : mid < e
                      · rwa [show e = b from by omega] at hs3
                      · rwa [show e = mid from by omega] at hs4
                    have H3 := Lib.hid hsl
                    clear hs3 hs4 hsl
                    by_cases q6 : mid < e
                    · have k1 : (mid : Int) < (e : Int) := by omega
                      have k2 : ¬ (e : Int) < (b : Int) := by omega
                      try (exfalso; omega)
                      all_goals (
                        go_wp2
                        go_end0
                        obtain ⟨x1, x2⟩ := merge_join (by omega) (by omega) H1.out.2.2.2.2.2 H2.out.1 H2.out.2 (.refl _ _ _ _) H3.out
                        exact ⟨rfl, d2, H1.out.1.trans x1, x2, SD.out⟩)
                    · have k1 : ¬ (mid : Int) < (e : Int) := by omega
                      try (exfalso; omega)
                      all_goals (
                        go_wp2
                        go_end0
                        obtain ⟨x1, x2⟩ := merge_join (by omega) (by omega) H1.out.2.2.2.2.2 H2.out.1 H2.out.2 (.refl _ _ _ _) H3.out
                        exact ⟨rfl, d2, H1.out.1.trans x1, x2, SD.out⟩))
              · have g2 : ¬ (a : Int) < (r : Int) := by omega
                try (exfalso; omega)
                all_goals (
                  have hs3 : Srt key mid e d2 := H1.out.2.2.2.1.of fun i i1 i2 => H2.out.1.out i (.inr i1)
                  have hs4 : Srt key e b d2 := H1.out.2.2.2.2.1.of fun i i1 i2 => H2.out.1.out i (.inr (by omega))
                  by_cases q5 : mid < e ∧ e < b
                  · have k1 : (mid : Int) < (e : Int) := by omega
                    have k2 : (e : Int) < (b : Int) := by omega
                    have K := IH.out mid e b d2 wr (by omega) q5.1 q5.2 (by omega) (by omega) SD.out hs3 hs4
                    have hs3' := Lib.hid hs3
                    clear SD hs3 hs4
                    go_wp2_with fail
                    refine K.mono ?_
                    rintro e3 w3 ⟨rfl, d3, m3, s3, S⟩
                    have SD : Aside (SW (Value.int .i64) w0 blk off d3 w3) := S
                    have H3 := Lib.hid (And.intro m3 s3)
                    clear S K m3 s3
                    try (exfalso; omega)
                    all_goals (
                      go_wp2
                      go_end0
                      obtain ⟨x1, x2⟩ := merge_join (by omega) (by omega) H1.out.2.2.2.2.2 H2.out.1 H2.out.2 H3.out.1 H3.out.2
                      exact ⟨rfl, d3, H1.out.1.trans x1, x2, SD.out⟩)
                  · have hsl : Srt key mid b d2 := by
                      by_cases q : mid < e
                      · rwa [show e = b from by omega] at hs3
                      · rwa [show e = mid from by omega] at hs4
                    have H3 := Lib.hid hsl
                    clear hs3 hs4 hsl
                    by_cases q6 : mid < e
                    · have k1 : (mid : Int) < (e : Int) := by omega
                      have k2 : ¬ (e : Int) < (b : Int) := by omega
                      try (exfalso; omega)
                      all_goals (
                        go_wp2
                        go_end0
                        obtain ⟨x1, x2⟩ := merge_join (by omega) (by omega) H1.out.2.2.2.2.2 H2.out.1 H2.out.2 (.refl _ _ _ _) H3.out
                        exact ⟨rfl, d2, H1.out.1.trans x1, x2, SD.out⟩)
                    · have k1 : ¬ (mid : Int) < (e : Int) := by omega
                      try (exfalso; omega)
                      all_goals (
                        go_wp2
                        go_end0
                        obtain ⟨x1, x2⟩ := merge_join (by omega) (by omega) H1.out.2.2.2.2.2 H2.out.1 H2.out.2 (.refl _ _ _ _) H3.out
                        exact ⟨rfl, d2, H1.out.1.trans x1, x2, SD.out⟩))
          · have f2 : ¬ (r : Int) < (m : Int) := by omega
            by_cases q2 : a < r ∧ r < mid
            · have g1 : (a : Int) < (r : Int) := by omega
              have g2 : (r : Int) < (mid : Int) := by omega
              have K := IH.out a r mid d1 wr (by omega) q2.1 q2.2 (by omega) (by omega) SD.out H1.out.2.1 H1.out.2.2.1
              clear SD
              go_wp2_with fail
              refine K.mono ?_
              rintro e2 w2 ⟨rfl, d2, m2, s2, S⟩
              have SD : Aside (SW (Value.int .i64) w0 blk off d2 w2) := S
              have H2 := Lib.hid (And.intro m2 s2)
              have hd2 : d2.size = d.size := m2.stb.1.trans hd1
              clear S K m2 s2
              try (exfalso; omega)
              all_goals (
                have hs3 : Srt key mid e d2 := H1.out.2.2.2.1.of fun i i1 i2 => H2.out.1.out i (.inr i1)
                have hs4 : Srt key e b d2 := H1.out.2.2.2.2.1.of fun i i1 i2 => H2.out.1.out i (.inr (by omega))
                by_cases q5 : mid < e ∧ e < b
                · have k1 : (mid : Int) < (e : Int) := by omega
                  have k2 : (e : Int) < (b : Int) := by omega
                  have K := IH.out mid e b d2 w2 (by omega) q5.1 q5.2 (by omega) (by omega) SD.out hs3 hs4
                  have hs3' := Lib.hid hs3
                  clear SD hs3 hs4
                  go_wp2_with fail
                  refine K.mono ?_
                  rintro e3 w3 ⟨rfl, d3, m3, s3, S⟩
                  have SD : Aside (SW (Value.int .i64) w0 blk off d3 w3) := S
                  have H3 := Lib.hid (And.intro m3 s3)
                  clear S K m3 s3
                  try (exfalso; omega)
                  all_goals (
                    go_wp2
                    go_end0
                    obtain ⟨x1, x2⟩ := merge_join (by omega) (by omega) H1.out.2.2.2.2.2 H2.out.1 H2.out.2 H3.out.1 H3.out.2
                    exact ⟨rfl, d3, H1.out.1.trans x1, x2, SD.out⟩)
                · have hsl : Srt key mid b d2 := by
                    by_cases q : mid < e
                    · rwa [show e = b from by omega] at hs3
                    · rwa [show e = mid from by omega] at hs4
                  have H3 := Lib.hid hsl
                  clear hs3 hs4 hsl
                  by_cases q6 : mid < e
                  · have k1 : (mid : Int) < (e : Int) := by omega
                    have k2 : ¬ (e : Int) < (b : Int) := by omega
                    try (exfalso; omega)
                    all_goals (
                      go_wp2
                      go_end0
                      obtain ⟨x1, x2⟩ := merge_join (by omega) (by omega) H1.out.2.2.2.2.2 H2.out.1 H2.out.2 (.refl _ _ _ _) H3.out
                      exact ⟨rfl, d2, H1.out.1.trans x1, x2, SD.out⟩)
                  · have k1 : ¬ (mid : Int) < (e : Int) := by omega
                    try (exfalso; omega)
                    all_goals (
                      go_wp2
                      go_end0
                      obtain ⟨x1, x2⟩ := merge_join (by omega) (by omega) H1.out.2.2.2.2.2 H2.out.1 H2.out.2 (.refl _ _ _ _) H3.out
                      exact ⟨rfl, d2, H1.out.1.trans x1, x2, SD.out⟩))
            · have g1 : ¬ ((a : Int) < (r : Int) ∧ (r : Int) < (mid : Int)) := by omega
              obtain ⟨d2, hdd, H2, SE, hd2⟩ : ∃ d2, d2 = d1 ∧ Hid (Mrg key a mid d1 d2 ∧ Srt key a mid d2) ∧ Aside (SW (Value.int .i64) w0 blk off d2 wr) ∧ d2.size = d.size := ⟨d1, rfl, ⟨.refl _ _ _ _, by
                by_cases q : a < r
                · have := H1.out.2.1
                  rwa [show r = mid from by omega] at this
                · have := H1.out.2.2.1
                  rwa [show r = a from by omega] at this⟩, SD, hd1⟩
              clear hdd SD
              have SD := SE
              clear SE
              by_cases q3 : a < r
              · have g2 : (a : Int) < (r : Int) := by omega
                have g3 : ¬ (r : Int) < (mid : Int) := by omega
                try (exfalso; omega)
                all_goals (
                  have hs3 : Srt key mid e d2 := H1.out.2.2.2.1.of fun i i1 i2 => H2.out.1.out i (.inr i1)
                  have hs4 : Srt key e b d2 := H1.out.2.2.2.2.1.of fun i i1 i2 => H2.out.1.out i (.inr (by omega))
                  by_cases q5 : mid < e ∧ e < b
                  · have k1 : (mid : Int) < (e : Int) := by omega
                    have k2 : (e : Int) < (b : Int) := by omega
                    have K := IH.out mid e b d2 wr (by omega) q5.1 q5.2 (by omega) (by omega) SD.out hs3 hs4
                    have hs3' := Lib.hid hs3
                    clear SD hs3 hs4
                    go_wp2_with fail
                    refine K.mono ?_
                    rintro e3 w3 ⟨rfl, d3, m3, s3, S⟩
                    have SD : Aside (SW (Value.int .i64) w0 blk off d3 w3) := S
                    have H3 := Lib.hid (And.intro m3 s3)
                    clear S K m3 s3
                    try (exfalso; omega)
                    all_goals (
                      go_wp2
                      go_end0
                      obtain ⟨x1, x2⟩ := merge_join (by omega) (by omega) H1.out.2.2.2.2.2 H2.out.1 H2.out.2 H3.out.1 H3.out.2
                      exact ⟨rfl, d3, H1.out.1.trans x1, x2, SD.out⟩)
                  · have hsl : Srt key mid b d2 := by
                      by_cases q : mid < e
                      · rwa [show e = b from by omega] at hs3
                      · rwa [show e = mid from by omega] at hs4
                    have H3 := Lib.hid hsl
                    clear hs3 hs4 hsl
                    by_cases q6 : mid < e
                    · have k1 : (mid : Int) < (e : Int) := by omega
                      have k2 : ¬ (e : Int) < (b : Int) := by omega
                      try (exfalso; omega)
                      all_goals (
                        go_wp2
                        go_end0
                        obtain ⟨x1, x2⟩ := merge_join (by omega) (by omega) H1.out.2.2.2.2.2 H2.out.1 H2.out.2 (.refl _ _ _ _) H3.out
                        exact ⟨rfl, d2, H1.out.1.trans x1, x2, SD.out⟩)
                    · have k1 : ¬ (mid : Int) < (e : Int) := by omega
                      try (exfalso; omega)
                      all_goals (
                        go_wp2
                        go_end0
                        obtain ⟨x1, x2⟩ := merge_join (by omega) (by omega) H1.out.2.2.2.2.2 H2.out.1 H2.out.2 (.refl _ _ _ _) H3.out
                        exact ⟨rfl, d2, H1.out.1.trans x1, x2, SD.out⟩))
              · have g2 : ¬ (a : Int) < (r : Int) := by omega
                try (exfalso; omega)
                all_goals (
                  have hs3 : Srt key mid e d2 := H1.out.2.2.2.1.of fun i i1 i2 => H2.out.1.out i (.inr i1)
                  have hs4 : Srt key e b d2 := H1.out.2.2.2.2.1.of fun i i1 i2 => H2.out.1.out i (.inr (by omega))
                  by_cases q5 : mid < e ∧ e < b
                  · have k1 : (mid : Int) < (e : Int) := by omega
                    have k2 : (e : Int) < (b : Int) := by omega
                    have K := IH.out mid e b d2 wr (by omega) q5.1 q5.2 (by omega) (by omega) SD.out hs3 hs4
                    have hs3' := Lib.hid hs3
                    clear SD hs3 hs4
                    go_wp2_with fail
                    refine K.mono ?_
                    rintro e3 w3 ⟨rfl, d3, m3, s3, S⟩
                    have SD : Aside (SW (Value.int .i64) w0 blk off d3 w3) := S
                    have H3 := Lib.hid (And.intro m3 s3)
                    clear S K m3 s3
                    try (exfalso; omega)
                    all_goals (
                      go_wp2
                      go_end0
                      obtain ⟨x1, x2⟩ := merge_join (by omega) (by omega) H1.out.2.2.2.2.2 H2.out.1 H2.out.2 H3.out.1 H3.out.2
                      exact ⟨rfl, d3, H1.out.1.trans x1, x2, SD.out⟩)
                  · have hsl : Srt key mid b d2 := by
                      by_cases q : mid < e
                      · rwa [show e = b from by omega] at hs3
                      · rwa [show e = mid from by omega] at hs4
                    have H3 := Lib.hid hsl
                    clear hs3 hs4 hsl
                    by_cases q6 : mid < e
                    · have k1 : (mid : Int) < (e : Int) := by omega
                      have k2 : ¬ (e : Int) < (b : Int) := by omega
                      try (exfalso; omega)
                      all_goals (
                        go_wp2
                        go_end0
                        obtain ⟨x1, x2⟩ := merge_join (by omega) (by omega) H1.out.2.2.2.2.2 H2.out.1 H2.out.2 (.refl _ _ _ _) H3.out
                        exact ⟨rfl, d2, H1.out.1.trans x1, x2, SD.out⟩)
                    · have k1 : ¬ (mid : Int) < (e : Int) := by omega
                      try (exfalso; omega)
                      all_goals (
                        go_wp2
                        go_end0
                        obtain ⟨x1, x2⟩ := merge_join (by omega) (by omega) H1.out.2.2.2.2.2 H2.out.1 H2.out.2 (.refl _ _ _ _) H3.out
                        exact ⟨rfl, d2, H1.out.1.trans x1, x2, SD.out⟩))

theorem symMerge_I (g : Nat) (cb : Array Value) (eg : ∀ args w, (callFunc g args).run Try.prog w = .ok (.enter g args) w) {cf : Int → Int → Int} {key : Int → Int} (hcf : ∀ x y, cf x y < 0 ↔ key x < key y) (blk off cap : Nat) (d0 : Array Int) (w0 : World) (hsz : d0.size < 4611686018427387904)
    (hcmp : CmpLays1 Try.prog g cb (Value.int .i64) cf blk off d0.size w0) (R : Row1 (Value.int .i64) w0 blk off d0) :
    ∀ (n a m b : Nat) (d : Array Int) (w : World), b - a ≤ n → d0.size = d.size → SW (Value.int .i64) w0 blk off d w → a < m → m < b → b ≤ d.size → Srt key a m d → Srt key m b d →
    Calls Try.prog 66 #[.slice (some ⟨blk, off, none⟩) d.size cap, .int .i64 a, .int .i64 m, .int .i64 b, .func (.func g) #[] cb] w fun e w' => e = .returned (.tuple #[]) ∧ ∃ d', Mrg key a b d d' ∧ Srt key a b d' ∧ SW (Value.int .i64) w0 blk off d' w' := by
  intro n
  induction n with
  | zero => intro a m b d w hn hs S ham hmb; omega
  | succ n ih =>
    intro a m b d w hn hs S ham hmb hb s1 s2
    by_cases h1 : m = a + 1
    · exact symLeft_I g cb eg hcf blk off cap d0 w0 hsz hcmp R a m b d w hs S h1 hmb hb s1 s2
    · by_cases h2 : b = m + 1
      · exact symRight_I g cb eg hcf blk off cap d0 w0 hsz hcmp R a m b d w hs S h2 (by omega) hb s1 s2
      · exact symStep_I g cb eg hcf blk off cap d0 w0 hsz hcmp R a m b d w hs S (by omega) (by omega) hb s1 s2 fun a' m' b' d' w' k1 k2 k3 k4 k5 k6 k7 k8 => k5 ▸ ih a' m' b' d' w' (by omega) (hs.trans k5.symm) k6 k2 k3 (by omega) k7 k8
end Go.Proofs.Ytfjipkkhjjpaiaa
