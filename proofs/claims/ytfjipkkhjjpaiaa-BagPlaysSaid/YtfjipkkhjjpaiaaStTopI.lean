/-
  The stable sort of a row (slices.SortStableFunc at ints) over this seat's translation. Conditions: those that each theorem states.
-/
import Derived.Test.YtfjipkkhjjpaiaaStSymBI

namespace Go.Proofs.Ytfjipkkhjjpaiaa
open Go.Shelf Go.RowKit Go.Lib Go.Sort St

/-- All stretches of so many, from the first on, are sorted. -/
def Blks {α : Type} [Inhabited α] (key : α → Int) (s n : Nat) (d : Array α) : Prop := ∀ x, s ∣ x → Srt key x (min (x + s) n) d
theorem mult_eq {s x a : Nat} (h1 : s ∣ x) (h2 : s ∣ a) (h3 : x ≤ a) (h4 : a < x + s) : x = a := by
  have h := Nat.eq_zero_of_dvd_of_lt (Nat.dvd_sub h2 h1) (by omega)
  omega
theorem mult_gt {s x a : Nat} (h1 : s ∣ x) (h2 : s ∣ a) (h3 : a < x) : a + s ≤ x := by
  by_cases h : x < a + s
  · have := mult_eq h2 h1 (by omega) h
    omega
  · omega
/-- How far the pairs of stretches are merged. -/
structure Half {α : Type} [Inhabited α] (key : α → Int) (s n a : Nat) (d : Array α) : Prop where
  at' : 2 * s ∣ a
  le : a ≤ n
  lo : ∀ x, 2 * s ∣ x → x + 2 * s ≤ a → Srt key x (x + 2 * s) d
  hi : ∀ x, s ∣ x → a ≤ x → Srt key x (min (x + s) n) d
theorem Half.start {α : Type} [Inhabited α] {key : α → Int} {s n : Nat} {d : Array α} (hs : 0 < s) (h : Blks key s n d) : Half key s n 0 d := ⟨Nat.dvd_zero _, Nat.zero_le _, fun x _ hx => by omega, fun x hx _ => h x hx⟩
theorem Half.step {α : Type} [Inhabited α] {key : α → Int} {s n a : Nat} {d d' : Array α} (hb : a + 2 * s ≤ n) (h : Half key s n a d) (m : Mrg key a (a + 2 * s) d d') (hs : Srt key a (a + 2 * s) d') : Half key s n (a + 2 * s) d' := by
  refine ⟨Nat.dvd_add h.at' (Nat.dvd_refl _), hb, fun x hx hle => ?_, fun x hx hle => ?_⟩
  · by_cases c : x + 2 * s ≤ a
    · exact (h.lo x hx c).of fun i i1 i2 => m.out i (.inl (by omega))
    · obtain rfl := mult_eq hx h.at' (by omega) (by omega)
      exact hs
  · exact (h.hi x hx (by omega)).of fun i i1 i2 => m.out i (.inr (by omega))
theorem Half.dvd {α : Type} [Inhabited α] {key : α → Int} {s n a : Nat} {d : Array α} (h : Half key s n a d) : s ∣ a ∧ s ∣ a + s := by
  have h1 : s ∣ a := Nat.dvd_trans ⟨2, by omega⟩ h.at'
  exact ⟨h1, Nat.dvd_add h1 (Nat.dvd_refl _)⟩
theorem Half.pair {α : Type} [Inhabited α] {key : α → Int} {s n a : Nat} {d : Array α} (h : Half key s n a d) (hm : a + s ≤ n) : Srt key a (a + s) d ∧ Srt key (a + s) (min (a + 2 * s) n) d := by
  have h1 := h.hi a h.dvd.1 (Nat.le_refl _)
  have h2 := h.hi (a + s) h.dvd.2 (by omega)
  rw [show min (a + s) n = a + s from by omega] at h1
  rw [show a + s + s = a + 2 * s from by omega] at h2
  exact ⟨h1, h2⟩
theorem Half.done {α : Type} [Inhabited α] {key : α → Int} {s n a : Nat} {d d' : Array α} (hb : ¬ a + 2 * s ≤ n) (h : Half key s n a d) (m : Mrg key a n d d') (hs : Srt key a n d') : Blks key (2 * s) n d' := by
  intro x hx
  by_cases c : x < a
  · have h1 := mult_gt h.at' hx c
    rw [show min (x + 2 * s) n = x + 2 * s from by have := h.le; omega]
    exact (h.lo x hx h1).of fun i i1 i2 => m.out i (.inl (by omega))
  · by_cases e : x = a
    · subst e
      rw [show min (x + 2 * s) n = n from by omega]
      exact hs
    · have := mult_gt hx h.at' (by omega)
      intro i j i1 i2 i3
      omega
/-- How far the first stretches are sorted. -/
structure Firsts {α : Type} [Inhabited α] (key : α → Int) (s a : Nat) (d : Array α) : Prop where
  at' : s ∣ a
  lo : ∀ x, s ∣ x → x + s ≤ a → Srt key x (x + s) d
theorem Firsts.step {α : Type} [Inhabited α] {key : α → Int} {s a : Nat} {d d' : Array α} (h : Firsts key s a d) (m : Mrg key a (a + s) d d') (hs : Srt key a (a + s) d') : Firsts key s (a + s) d' := by
  refine ⟨Nat.dvd_add h.at' (Nat.dvd_refl _), fun x hx hle => ?_⟩
  by_cases c : x + s ≤ a
  · exact (h.lo x hx c).of fun i i1 i2 => m.out i (.inl (by omega))
  · obtain rfl := mult_eq hx h.at' (by omega) (by omega)
    exact hs
theorem Firsts.done {α : Type} [Inhabited α] {key : α → Int} {s n a : Nat} {d d' : Array α} (ha : a ≤ n) (hb : ¬ a + s ≤ n) (h : Firsts key s a d) (m : Mrg key a n d d') (hs : Srt key a n d') : Blks key s n d' := by
  intro x hx
  by_cases c : x < a
  · have h1 := mult_gt h.at' hx c
    rw [show min (x + s) n = x + s from by omega]
    exact (h.lo x hx h1).of fun i i1 i2 => m.out i (.inl (by omega))
  · by_cases e : x = a
    · subst e
      rw [show min (x + s) n = n from by omega]
      exact hs
    · have := mult_gt hx h.at' (by omega)
      intro i j i1 i2 i3
      omega

set_option maxHeartbeats 64000000 in
set_option maxRecDepth 1000000 in
theorem stable_I (g : Nat) (cb : Array Value) (eg : ∀ args w, (callFunc g args).run Try.prog w = .ok (.enter g args) w) {cf : Int → Int → Int} {key : Int → Int} (hcf : ∀ x y, cf x y < 0 ↔ key x < key y) (blk off cap : Nat) (d0 : Array Int) (w0 : World) (hsz : d0.size ≤ 1000000)
    (hcmp : CmpLays1 Try.prog g cb (Value.int .i64) cf blk off d0.size w0) (R : Row1 (Value.int .i64) w0 blk off d0)
    (n : Nat) (d : Array Int) (w : World) (hs : d0.size = d.size) (S : SW (Value.int .i64) w0 blk off d w) (hn : n = d.size) :
    Calls Try.prog 61 #[.slice (some ⟨blk, off, none⟩) d.size cap, .int .i64 n, .func (.func g) #[] cb] w fun e w' => e = .returned (.tuple #[]) ∧ ∃ d', Stb key d d' ∧ Srt key 0 d.size d' ∧ SW (Value.int .i64) w0 blk off d' w' := by
  have S0 : Aside (SW (Value.int .i64) w0 blk off d w) := S
  have hnd : n ≤ d.size := by omega
  have hnd2 : d.size ≤ n := by omega
  have KI := Lib.hid fun (a b : Nat) (dk : Array Int) (hk : d.size = dk.size) (W : World) (h : SW (Value.int .i64) w0 blk off dk W) (h1 : a ≤ b) (h2 : b ≤ dk.size) => hk ▸ insertion_I g cb eg hcf blk off cap a b d0 dk w0 W hcmp R (hs.trans hk) h h1 h2 (by omega)
  have KM := Lib.hid fun (a m b : Nat) (dk : Array Int) (hk : d.size = dk.size) (W : World) (h : SW (Value.int .i64) w0 blk off dk W) (h1 : a < m) (h2 : m < b) (h3 : b ≤ dk.size) (s1 : Srt key a m dk) (s2 : Srt key m b dk) => hk ▸ symMerge_I g cb eg hcf blk off cap d0 w0 (by omega) hcmp R (b - a) a m b dk W (Nat.le_refl _) (hs.trans hk) h h1 h2 h3 s1 s2
  rw [hs] at hsz
  clear S hcmp hcf eg hn
  go_enter Try.func61, Try.ntmps61
  go_wp2
  go_loopg [7, 8] n (fun kx s7 s8 wr => ∃ (a : Nat) (dk : Array Int), s7 = .int .i64 a ∧ s8 = .int .i64 ((a : Int) + 20) ∧ a ≤ n ∧ n - a ≤ kx ∧ dk.size = d.size ∧ Aside (SW (Value.int .i64) w0 blk off dk wr) ∧ Hid (Firsts key 20 a dk ∧ Stb key d dk))
  case atStart => exact ⟨0, d, rfl, rfl, Nat.zero_le _, Nat.le_refl _, rfl, S0, (show Hid _ from ⟨⟨Nat.dvd_zero _, fun x _ hx => by omega⟩, .refl _ _⟩)⟩
  case round =>
    clear S0
    obtain ⟨a, dk, rfl, rfl, han, hkx, hds, S1, HI⟩ := hrel
    by_cases hlt : a + 20 ≤ n
    · have hltz : (a : Int) + 20 ≤ (n : Int) := by omega
      have K := KI.out a (a + 20) dk hds.symm wr S1.out (by omega) (by omega)
      rw [show ((a + 20 : Nat) : Int) = (a : Int) + 20 from by omega] at K
      clear S1
      go_wp2_with fail
      refine K.mono ?_
      rintro e w1 ⟨rfl, d1, m1, s1, S⟩
      have S2 : Aside (SW (Value.int .i64) w0 blk off d1 w1) := S
      have H1 := Lib.hid (And.intro m1 s1)
      have hd1 : d1.size = d.size := m1.stb.1.trans hds
      clear S K m1 s1
      go_wp2
      go_roundg (n - (a + 20))
      case measure => omega
      case rel => exact ⟨a + 20, d1, by go_num, by first | rfl | go_num | (congr 1; omega), hlt, Nat.le_refl _, hd1, S2, (show Hid _ from ⟨HI.out.1.step H1.out.1 H1.out.2, HI.out.2.trans H1.out.1.stb⟩)⟩
    · have hltz : ¬ (a : Int) + 20 ≤ (n : Int) := by omega
      have K := KI.out a n dk hds.symm wr S1.out han (by omega)
      clear S1
      go_wp2_with fail
      refine K.mono ?_
      rintro e w1 ⟨rfl, d1, m1, s1, S⟩
      have S2 : Aside (SW (Value.int .i64) w0 blk off d1 w1) := S
      have H1 := Lib.hid (show Blks key 20 n d1 ∧ Stb key d d1 from ⟨HI.out.1.done han hlt m1 s1, HI.out.2.trans m1.stb⟩)
      have hd1 : d1.size = d.size := m1.stb.1.trans hds
      clear S K m1 s1 HI
      go_wp2
      go_loopg [6] n (fun kx s6 wr => ∃ (s : Nat) (dk : Array Int), s6 = .int .i64 s ∧ 20 ≤ s ∧ s ≤ 2000020 ∧ n - s ≤ kx ∧ dk.size = d.size ∧ Aside (SW (Value.int .i64) w0 blk off dk wr) ∧ Hid (Blks key s n dk ∧ Stb key d dk))
      case atStart => exact ⟨20, d1, rfl, Nat.le_refl _, by omega, by omega, hd1, S2, H1⟩
      case round =>
        clear S2 H1 hd1 hds
        obtain ⟨s, dk, rfl, h20, hsb, hkx2, hds, S3, HB⟩ := hrel
        by_cases hsn : s < n
        · have hsz2 : (s : Int) < (n : Int) := by omega
          have zs2 : IntKind.i64.wrap (2 * (s : Int)) = 2 * (s : Int) := by rw [IntKind.wrap_i64] <;> omega
          go_wp2
          go_loopg [7, 8] n (fun kz s7 s8 wr => ∃ (a : Nat) (dm : Array Int), s7 = .int .i64 a ∧ s8 = .int .i64 ((a : Int) + 2 * (s : Int)) ∧ a ≤ n ∧ n - a ≤ kz ∧ dm.size = d.size ∧ Aside (SW (Value.int .i64) w0 blk off dm wr) ∧ Hid (Half key s n a dm ∧ Stb key d dm))
          case atStart => exact ⟨0, dk, rfl, by first | rfl | go_num | (congr 1; omega), Nat.zero_le _, Nat.le_refl _, hds, S3, (show Hid _ from ⟨.start (by omega) HB.out.1, HB.out.2⟩)⟩
          case round =>
            clear S3 HB hds
            obtain ⟨b, dm, rfl, rfl, hbn, hkz, hdm, S4, HH⟩ := hrel
            have zm : IntKind.i64.wrap ((b : Int) + (s : Int)) = ((b + s : Nat) : Int) := by rw [IntKind.wrap_i64] <;> omega
            by_cases hle : b + 2 * s ≤ n
            · have hlez : (b : Int) + 2 * (s : Int) ≤ (n : Int) := by omega
              have hp := HH.out.1.pair (by omega)
              rw [show min (b + 2 * s) n = b + 2 * s from by omega] at hp
              have K := KM.out b (b + s) (b + 2 * s) dm hdm.symm wr S4.out (by omega) (by omega) (by omega) hp.1 hp.2
              rw [show ((b + 2 * s : Nat) : Int) = (b : Int) + 2 * (s : Int) from by omega] at K
              clear S4 hp
              go_wp2_with fail
              refine K.mono ?_
              rintro e w2 ⟨rfl, d2, m2, s2, S⟩
              have S5 : Aside (SW (Value.int .i64) w0 blk off d2 w2) := S
              have H2 := Lib.hid (And.intro m2 s2)
              have hd2 : d2.size = d.size := m2.stb.1.trans hdm
              clear S K m2 s2
              go_wp2
              go_roundg (n - (b + 2 * s))
              case measure => omega
              case rel => exact ⟨b + 2 * s, d2, by first | rfl | go_num | (congr 1; omega), by first | rfl | go_num | (congr 1; omega), hle, Nat.le_refl _, hd2, S5, (show Hid _ from ⟨HH.out.1.step hle H2.out.1 H2.out.2, HH.out.2.trans H2.out.1.stb⟩)⟩
            · have hlez : ¬ (b : Int) + 2 * (s : Int) ≤ (n : Int) := by omega
              by_cases hms : b + s < n
              · have hmz : ((b + s : Nat) : Int) < (n : Int) := by omega
                have hp := HH.out.1.pair (by omega)
                rw [show min (b + 2 * s) n = n from by omega] at hp
                have K := KM.out b (b + s) n dm hdm.symm wr S4.out (by omega) hms (by omega) hp.1 hp.2
                clear S4 hp
                obtain ⟨bs, hbs⟩ : ∃ q, q = b + s := ⟨_, rfl⟩
                rw [← hbs] at zm hmz K
                clear hbs
                go_wp2_with fail
                refine K.mono ?_
                rintro e w2 ⟨rfl, d2, m2, s2, S⟩
                have S5 : Aside (SW (Value.int .i64) w0 blk off d2 w2) := S
                have H2 := Lib.hid (And.intro m2 s2)
                have hd2 : d2.size = d.size := m2.stb.1.trans hdm
                clear S K m2 s2
                go_wp2
                go_roundg (n - 2 * s)
                case measure => omega
                case rel => exact ⟨2 * s, d2, by first | rfl | go_num | (congr 1; omega), by omega, by omega, Nat.le_refl _, hd2, S5, (show Hid _ from ⟨HH.out.1.done hle H2.out.1 H2.out.2, HH.out.2.trans H2.out.1.stb⟩)⟩
              · have hmz : ¬ ((b + s : Nat) : Int) < (n : Int) := by omega
                have hp := HH.out.1.hi b HH.out.1.dvd.1 (Nat.le_refl _)
                rw [show min (b + s) n = n from by omega] at hp
                have H2 := Lib.hid hp
                obtain ⟨bs, hbs⟩ : ∃ q, q = b + s := ⟨_, rfl⟩
                rw [← hbs] at zm hmz
                clear hbs hp
                go_wp2
                go_roundg (n - 2 * s)
                case measure => omega
                case rel => exact ⟨2 * s, dm, by first | rfl | go_num | (congr 1; omega), by omega, by omega, Nat.le_refl _, hdm, S4, (show Hid _ from ⟨HH.out.1.done hle (.refl _ _ _ _) H2.out, HH.out.2⟩)⟩
        · have hsz2 : ¬ (s : Int) < (n : Int) := by omega
          go_wp2
          go_end0
          have h0 := HB.out.1 0 (Nat.dvd_zero _)
          rw [show min (0 + s) n = d.size from by omega] at h0
          exact ⟨rfl, dk, HB.out.2, h0, S3.out⟩

set_option maxHeartbeats 2000000 in
theorem sortStable_I (g : Nat) (cb : Array Value) (eg : ∀ args w, (callFunc g args).run Try.prog w = .ok (.enter g args) w) {cf : Int → Int → Int} {key : Int → Int} (hcf : ∀ x y, cf x y < 0 ↔ key x < key y) (blk off cap : Nat) (d0 : Array Int) (w0 : World) (hsz : d0.size ≤ 1000000)
    (hcmp : CmpLays1 Try.prog g cb (Value.int .i64) cf blk off d0.size w0) (R : Row1 (Value.int .i64) w0 blk off d0) :
    Calls Try.prog 51 #[.slice (some ⟨blk, off, none⟩) d0.size cap, .func (.func g) #[] cb] w0 fun e w' => e = .returned (.tuple #[]) ∧ ∃ d', Stb key d0 d' ∧ Srt key 0 d0.size d' ∧ SW (Value.int .i64) w0 blk off d' w' := by
  have K := stable_I g cb eg hcf blk off cap d0 w0 hsz hcmp R d0.size d0 w0 rfl (.start R.hH) rfl
  clear hcmp hcf eg R
  go_enter Try.func51, Try.ntmps51
  go_wp2_with fail
  refine K.mono ?_
  rintro e w' ⟨rfl, d', h1, h2, h3⟩
  have H := Lib.hid (show _ ∧ _ ∧ _ from ⟨h1, h2, h3⟩)
  clear h1 h2 h3 K
  go_wp2
  go_end0
  exact ⟨rfl, d', H.out⟩
end Go.Proofs.Ytfjipkkhjjpaiaa
