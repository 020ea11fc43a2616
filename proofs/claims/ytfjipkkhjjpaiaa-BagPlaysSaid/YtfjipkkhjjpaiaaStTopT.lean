/-
  The stable sort of a row (slices.SortStableFunc at items) over this seat's translation. Conditions: those that each theorem states.
-/
import Derived.Test.YtfjipkkhjjpaiaaStSymBT
import Derived.Test.YtfjipkkhjjpaiaaStTopI
namespace Go.Proofs.Ytfjipkkhjjpaiaa
open Go.Shelf Go.RowKit Go.Lib Go.Sort St

set_option maxHeartbeats 64000000 in
set_option maxRecDepth 1000000 in
theorem stable_T (g : Nat) (cb : Array Value) (eg : ∀ args w, (callFunc g args).run Try.prog w = .ok (.enter g args) w) {cf : It → It → Int} {key : It → Int} (hcf : ∀ x y, cf x y < 0 ↔ key x < key y) (blk off cap : Nat) (d0 : Array It) (w0 : World) (hsz : d0.size ≤ 1000000)
    (hcmp : ∀ W, CmpLays Try.prog g cb It.cells 2 cf blk off d0.size W) (R : RowK It.cells 2 w0 blk off d0)
    (n : Nat) (d : Array It) (w : World) (hs : d0.size = d.size) (S : SWK It.cells 2 w0 blk off d w) (hn : n = d.size) :
    Calls Try.prog 57 #[.slice (some ⟨blk, off, none⟩) d.size cap, .int .i64 n, .func (.func g) #[] cb] w fun e w' => e = .returned (.tuple #[]) ∧ ∃ d', Stb key d d' ∧ Srt key 0 d.size d' ∧ SWK It.cells 2 w0 blk off d' w' := by
  have S0 : Aside (SWK It.cells 2 w0 blk off d w) := S
  have hnd : n ≤ d.size := by omega
  have hnd2 : d.size ≤ n := by omega
  have KI := Lib.hid fun (a b : Nat) (dk : Array It) (hk : d.size = dk.size) (W : World) (h : SWK It.cells 2 w0 blk off dk W) (h1 : a ≤ b) (h2 : b ≤ dk.size) => hk ▸ insertion_T g cb eg hcf blk off cap a b d0 dk w0 W hcmp R (hs.trans hk) h h1 h2 (by omega)
  have KM := Lib.hid fun (a m b : Nat) (dk : Array It) (hk : d.size = dk.size) (W : World) (h : SWK It.cells 2 w0 blk off dk W) (h1 : a < m) (h2 : m < b) (h3 : b ≤ dk.size) (s1 : Srt key a m dk) (s2 : Srt key m b dk) => hk ▸ symMerge_T g cb eg hcf blk off cap d0 w0 (by omega) hcmp R (b - a) a m b dk W (Nat.le_refl _) (hs.trans hk) h h1 h2 h3 s1 s2
  rw [hs] at hsz
  clear S hcmp hcf eg hn
  go_enter Try.func57, Try.ntmps57
  go_wp2
  go_loopg [7, 8] n (fun kx s7 s8 wr => ∃ (a : Nat) (dk : Array It), s7 = .int .i64 a ∧ s8 = .int .i64 ((a : Int) + 20) ∧ a ≤ n ∧ n - a ≤ kx ∧ dk.size = d.size ∧ Aside (SWK It.cells 2 w0 blk off dk wr) ∧ Hid (Firsts key 20 a dk ∧ Stb key d dk))
  case atStart => exact ⟨0, d, rfl, rfl, Nat.zero_le _, Nat.le_refl _, rfl, S0, (show Hid _ from ⟨⟨Nat.dvd_zero _, fun x _ hx => by omega⟩, .refl _ _⟩)⟩
  case round =>
    clear S0
    obtain ⟨a, dk, rfl, rfl, han, hkx, hds, S1, HI⟩ := hrel
    by_cases hlt : a + 20 ≤ n
    · have hltz : (a : Int) + 20 ≤ (n : Int) := by omega
      have K := KI.out a (a + 20) dk hds.symm wr S1.out (by omega) (by omega)
      rw [show ((a + 20 : Nat) : Int) = (a : Int) + 20 from by omega] at K
      clear S1
      go_wp2_with fail
      refine K.mono ?_
      rintro e w1 ⟨rfl, d1, m1, s1, S⟩
      have S2 : Aside (SWK It.cells 2 w0 blk off d1 w1) := S
      have H1 := Lib.hid (And.intro m1 s1)
      have hd1 : d1.size = d.size := m1.stb.1.trans hds
      clear S K m1 s1
      go_wp2
      go_roundg (n - (a + 20))
      case measure => omega
      case rel => exact ⟨a + 20, d1, by go_num, by first | rfl | go_num | (congr 1; omega), hlt, Nat.le_refl _, hd1, S2, (show Hid _ from ⟨HI.out.1.step H1.out.1 H1.out.2, HI.out.2.trans H1.out.1.stb⟩)⟩
    · have hltz : ¬ (a : Int) + 20 ≤ (n : Int) := by omega
      have K := KI.out a n dk hds.symm wr S1.out han (by omega)
      clear S1
      go_wp2_with fail
      refine K.mono ?_
      rintro e w1 ⟨rfl, d1, m1, s1, S⟩
      have S2 : Aside (SWK It.cells 2 w0 blk off d1 w1) := S
      have H1 := Lib.hid (show Blks key 20 n d1 ∧ Stb key d d1 from ⟨HI.out.1.done han hlt m1 s1, HI.out.2.trans m1.stb⟩)
      have hd1 : d1.size = d.size := m1.stb.1.trans hds
      clear S K m1 s1 HI
      go_wp2
      go_loopg [6] n (fun kx s6 wr => ∃ (s : Nat) (dk : Array It), s6 = .int .i64 s ∧ 20 ≤ s ∧ s ≤ 2000020 ∧ n - s ≤ kx ∧ dk.size = d.size ∧ Aside (SWK It.cells 2 w0 blk off dk wr) ∧ Hid (Blks key s n dk ∧ Stb key d dk))
      case atStart => exact ⟨20, d1, rfl, Nat.le_refl _, by omega, by omega, hd1, S2, H1⟩
      case round =>
        clear S2 H1 hd1 hds
        obtain ⟨s, dk, rfl, h20, hsb, hkx2, hds, S3, HB⟩ := hrel
        by_cases hsn : s < n
        · have hsz2 : (s : Int) < (n : Int) := by omega
          have zs2 : IntKind.i64.wrap (2 * (s : Int)) = 2 * (s : Int) := by rw [IntKind.wrap_i64] <;> omega
          go_wp2
          go_loopg [7, 8] n (fun kz s7 s8 wr => ∃ (a : Nat) (dm : Array It), s7 = .int .i64 a ∧ s8 = .int .i64 ((a : Int) + 2 * (s : Int)) ∧ a ≤ n ∧ n - a ≤ kz ∧ dm.size = d.size ∧ Aside (SWK It.cells 2 w0 blk off dm wr) ∧ Hid (Half key s n a dm ∧ Stb key d dm))
          case atStart => exact ⟨0, dk, rfl, by first | rfl | go_num | (congr 1; omega), Nat.zero_le _, Nat.le_refl _, hds, S3, (show Hid _ from ⟨.start (by omega) HB.out.1, HB.out.2⟩)⟩
          case round =>
            clear S3 HB hds
            obtain ⟨b, dm, rfl, rfl, hbn, hkz, hdm, S4, HH⟩ := hrel
            have zm : IntKind.i64.wrap ((b : Int) + (s : Int)) = ((b + s : Nat) : Int) := by rw [IntKind.wrap_i64] <;> omega
            by_cases hle : b + 2 * s ≤ n
            · have hlez : (b : Int) + 2 * (s : Int) ≤ (n : Int) := by omega
              have hp := HH.out.1.pair (by omega)
              rw [show min (b + 2 * s) n = b + 2 * s from by omega] at hp
              have K := KM.out b (b + s) (b + 2 * s) dm hdm.symm wr S4.out (by omega) (by omega) (by omega) hp.1 hp.2
              rw [show ((b + 2 * s : Nat) : Int) = (b : Int) + 2 * (s : Int) from by omega] at K
              clear S4 hp
              go_wp2_with fail
              refine K.mono ?_
              rintro e w2 ⟨rfl, d2, m2, s2, S⟩
              have S5 : Aside (SWK It.cells 2 w0 blk off d2 w2) := S
              have H2 := Lib.hid (And.intro m2 s2)
              have hd2 : d2.size = d.size := m2.stb.1.trans hdm
              clear S K m2 s2
              go_wp2
              go_roundg (n - (b + 2 * s))
              case measure => omega
              case rel => exact ⟨b + 2 * s, d2, by first | rfl | go_num | (congr 1; omega), by first | rfl | go_num | (congr 1; omega), hle, Nat.le_refl _, hd2, S5, (show Hid _ from ⟨HH.out.1.step hle H2.out.1 H2.out.2, HH.out.2.trans H2.out.1.stb⟩)⟩
            · have hlez : ¬ (b : Int) + 2 * (s : Int) ≤ (n : Int) := by omega
              by_cases hms : b + s < n
              · have hmz : ((b + s : Nat) : Int) < (n : Int) := by omega
                have hp := HH.out.1.pair (by omega)
                rw [show min (b + 2 * s) n = n from by omega] at hp
                have K := KM.out b (b + s) n dm hdm.symm wr S4.out (by omega) hms (by omega) hp.1 hp.2
                clear S4 hp
                obtain ⟨bs, hbs⟩ : ∃ q, q = b + s := ⟨_, rfl⟩
                rw [← hbs] at zm hmz K
                clear hbs
                go_wp2_with fail
                refine K.mono ?_
                rintro e w2 ⟨rfl, d2, m2, s2, S⟩
                have S5 : Aside (SWK It.cells 2 w0 blk off d2 w2) := S
                have H2 := Lib.hid (And.intro m2 s2)
                have hd2 : d2.size = d.size := m2.stb.1.trans hdm
                clear S K m2 s2
                go_wp2
                go_roundg (n - 2 * s)
                case measure => omega
                case rel => exact ⟨2 * s, d2, by first | rfl | go_num | (congr 1; omega), by omega, by omega, Nat.le_refl _, hd2, S5, (show Hid _ from ⟨HH.out.1.done hle H2.out.1 H2.out.2, HH.out.2.trans H2.out.1.stb⟩)⟩
              · have hmz : ¬ ((b + s : Nat) : Int) < (n : Int) := by omega
                have hp := HH.out.1.hi b HH.out.1.dvd.1 (Nat.le_refl _)
                rw [show min (b + s) n = n from by omega] at hp
                have H2 := Lib.hid hp
                obtain ⟨bs, hbs⟩ : ∃ q, q = b + s := ⟨_, rfl⟩
                rw [← hbs] at zm hmz
                clear hbs hp
                go_wp2
                go_roundg (n - 2 * s)
                case measure => omega
                case rel => exact ⟨2 * s, dm, by first | rfl | go_num | (congr 1; omega), by omega, by omega, Nat.le_refl _, hdm, S4, (show Hid _ from ⟨HH.out.1.done hle (.refl _ _ _ _) H2.out, HH.out.2⟩)⟩
        · have hsz2 : ¬ (s : Int) < (n : Int) := by omega
          go_wp2
          go_end0
          have h0 := HB.out.1 0 (Nat.dvd_zero _)
          rw [show min (0 + s) n = d.size from by omega] at h0
          exact ⟨rfl, dk, HB.out.2, h0, S3.out⟩

set_option maxHeartbeats 2000000 in
theorem sortStable_T (g : Nat) (cb : Array Value) (eg : ∀ args w, (callFunc g args).run Try.prog w = .ok (.enter g args) w) {cf : It → It → Int} {key : It → Int} (hcf : ∀ x y, cf x y < 0 ↔ key x < key y) (blk off cap : Nat) (d0 : Array It) (w0 : World) (hsz : d0.size ≤ 1000000)
    (hcmp : ∀ W, CmpLays Try.prog g cb It.cells 2 cf blk off d0.size W) (R : RowK It.cells 2 w0 blk off d0) :
    Calls Try.prog 43 #[.slice (some ⟨blk, off, none⟩) d0.size cap, .func (.func g) #[] cb] w0 fun e w' => e = .returned (.tuple #[]) ∧ ∃ d', Stb key d0 d' ∧ Srt key 0 d0.size d' ∧ SWK It.cells 2 w0 blk off d' w' := by
  have K := stable_T g cb eg hcf blk off cap d0 w0 hsz hcmp R d0.size d0 w0 rfl (.start R.hH) rfl
  clear hcmp hcf eg R
  go_enter Try.func43, Try.ntmps43
  go_wp2_with fail
  refine K.mono ?_
  rintro e w' ⟨rfl, d', h1, h2, h3⟩
  have H := Lib.hid (show _ ∧ _ ∧ _ from ⟨h1, h2, h3⟩)
  clear h1 h2 h3 K
  go_wp2
  go_end0
  exact ⟨rfl, d', H.out⟩
end Go.Proofs.Ytfjipkkhjjpaiaa
