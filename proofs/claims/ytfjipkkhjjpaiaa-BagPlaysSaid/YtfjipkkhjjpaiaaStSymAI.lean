/-
  A merge of one element with a stretch (slices.symMergeCmpFunc at ints) over this seat's translation. Conditions: those that each theorem states.
-/
import Derived.Test.YtfjipkkhjjpaiaaStRotI
import Derived.Test.YtfjipkkhjjpaiaaStIns

namespace Go.Proofs.Ytfjipkkhjjpaiaa
open Go.Shelf Go.RowKit Go.Lib Go.Sort St

theorem rot_right {α : Type} [Inhabited α] {d dk : Array α} {a k : Nat} (hak : a ≤ k) (hk : k + 1 < d.size) (h : IsRot a (a + 1) (k + 1) d dk) : IsRot a (a + 1) (k + 2) d (swp dk k (k + 1)) := by
  refine ⟨by rw [size_swp]; exact h.1, fun q => ?_⟩
  rw [swp_at _ (by rw [h.1]; omega) (by rw [h.1]; omega), h.2, h.2, h.2, show k + 1 - (a + 1) = k - a from by omega, show k + 2 - (a + 1) = k + 1 - a from by omega, show a + 1 - a = 1 from by omega, show a + (k - a) = k from by omega, show a + (k + 1 - a) = k + 1 from by omega]
  by_cases c1 : q = k + 1
  · subst c1
    rw [if_pos rfl, if_neg (by omega), if_pos (show k ≤ k ∧ k < k + 1 from ⟨by omega, by omega⟩), if_neg (by omega), if_pos (show k + 1 ≤ k + 1 ∧ k + 1 < k + 2 from ⟨by omega, by omega⟩)]
    congr 1
    omega
  · rw [if_neg c1]
    by_cases c2 : q = k
    · subst c2
      rw [if_pos rfl, if_neg (by omega), if_neg (by omega), if_pos (show a ≤ q ∧ q < q + 1 from ⟨by omega, by omega⟩)]
    · rw [if_neg c2]
      by_cases c3 : a ≤ q ∧ q < k
      · rw [if_pos c3, if_pos (show a ≤ q ∧ q < k + 1 from ⟨by omega, by omega⟩)]
      · rw [if_neg c3, if_neg (show ¬ (a ≤ q ∧ q < k + 1) by omega), if_neg (show ¬ (k ≤ q ∧ q < k + 1) by omega), if_neg (show ¬ (k + 1 ≤ q ∧ q < k + 2) by omega)]
theorem rot_left {α : Type} [Inhabited α] {d dk : Array α} {k m : Nat} (hk0 : 0 < k) (hkm : k ≤ m) (hm : m < d.size) (h : IsRot k m (m + 1) d dk) : IsRot (k - 1) m (m + 1) d (swp dk k (k - 1)) := by
  refine ⟨by rw [size_swp]; exact h.1, fun q => ?_⟩
  rw [swp_at _ (by rw [h.1]; omega) (by rw [h.1]; omega), h.2, h.2, h.2, show m + 1 - m = 1 from by omega, show k - 1 + 1 = k from by omega]
  by_cases c1 : q = k - 1
  · subst c1
    rw [if_pos rfl, if_pos (show k ≤ k ∧ k < k + 1 from ⟨by omega, by omega⟩), if_pos (show k - 1 ≤ k - 1 ∧ k - 1 < k from ⟨by omega, by omega⟩)]
    congr 1
    omega
  · rw [if_neg c1]
    by_cases c2 : q = k
    · subst c2
      rw [if_pos rfl, if_neg (by omega), if_neg (by omega), if_neg (by omega), if_pos (show q ≤ q ∧ q < m + 1 from ⟨by omega, by omega⟩)]
    · rw [if_neg c2, if_neg (by omega)]
      by_cases c3 : k + 1 ≤ q ∧ q < m + 1
      · rw [if_pos c3, if_neg (by omega), if_pos (show k ≤ q ∧ q < m + 1 from ⟨by omega, by omega⟩)]
      · rw [if_neg c3, if_neg (by omega), if_neg (by omega)]

set_option maxHeartbeats 16000000 in
set_option maxRecDepth 1000000 in
theorem symLeft_I (g : Nat) (cb : Array Value) (eg : ∀ args w, (callFunc g args).run Try.prog w = .ok (.enter g args) w) {cf : Int → Int → Int} {key : Int → Int} (hcf : ∀ x y, cf x y < 0 ↔ key x < key y) (blk off cap : Nat) (d0 : Array Int) (w0 : World) (hsz : d0.size < 4611686018427387904)
    (hcmp : CmpLays1 Try.prog g cb (Value.int .i64) cf blk off d0.size w0) (R : Row1 (Value.int .i64) w0 blk off d0)
    (a m b : Nat) (d : Array Int) (w : World) (hs : d0.size = d.size) (S : SW (Value.int .i64) w0 blk off d w) (hm : m = a + 1) (hmb : m < b) (hb : b ≤ d.size) (s1 : Srt key a m d) (s2 : Srt key m b d) :
    Calls Try.prog 66 #[.slice (some ⟨blk, off, none⟩) d.size cap, .int .i64 a, .int .i64 m, .int .i64 b, .func (.func g) #[] cb] w fun e w' => e = .returned (.tuple #[]) ∧ ∃ d', Mrg key a b d d' ∧ Srt key a b d' ∧ SW (Value.int .i64) w0 blk off d' w' := by
  have mixed : Try.prog.follows .mixedOrders = true := by kernel_rfl
  have S0 : Aside (SW (Value.int .i64) w0 blk off d w) := S
  clear S
  have HC : Aside _ := hcmp
  have HCF := Lib.hid hcf
  have HS1 := Lib.hid s1
  have HS2 := Lib.hid s2
  have hm1 : m ≤ a + 1 := by omega
  have hm2 : a + 1 ≤ m := by omega
  clear hcmp hcf s1 s2 hm
  rw [hs] at hsz
  have hw1 : IntKind.i64.wrap ((m : Int) - (a : Int)) = 1 := by rw [IntKind.wrap_i64] <;> omega
  go_enter Try.func66, Try.ntmps66
  go_wp2
  go_loopg [10, 11] (b - m) (fun kx s10 s11 wr => ∃ (i j : Nat), s10 = .int .i64 i ∧ s11 = .int .i64 j ∧ m ≤ i ∧ i ≤ j ∧ j ≤ b ∧ j - i ≤ kx ∧ Aside (SW (Value.int .i64) w0 blk off d wr) ∧ Hid ((i = m ∨ key d[i - 1]! < key d[a]!) ∧ (j = b ∨ ¬ key d[j]! < key d[a]!)))
  case atStart => exact ⟨m, b, rfl, rfl, Nat.le_refl _, by omega, Nat.le_refl _, Nat.le_refl _, S0, (show Hid _ from ⟨.inl rfl, .inl rfl⟩)⟩
  case round =>
    clear S0
    obtain ⟨i, j, rfl, rfl, hmi, hij, hjb, hkx, S1, HI⟩ := hrel
    by_cases hlt : i < j
    · have hltz : (i : Int) < (j : Int) := by omega
      obtain ⟨h, hh⟩ : ∃ h, h = (i + j) / 2 := ⟨_, rfl⟩
      have zh : ((i : Int) + (j : Int)) / 2 = (h : Int) := by omega
      have h1 : i ≤ h := by omega
      have h2 : h < j := by omega
      clear hh
      go_wp2_with fail
      by_cases hk : key d[h]! < key d[a]!
      · obtain ⟨iN101, hiN101⟩ : ∃ q, q = h := ⟨_, rfl⟩
        obtain ⟨jN101, hjN101⟩ : ∃ q, q = a := ⟨_, rfl⟩
        have ea101 : ((h : Int)).toNat = iN101 := by omega
        have pa101 : (0 : Int) ≤ (h : Int) := by omega
        have ba101 : (h : Int) < (d.size : Int) := by omega
        have ra101 : IntKind.i64.wrap ((h : Int)) = (h : Int) := by rw [IntKind.wrap_i64]; omega
        have ec101 : ((a : Int)).toNat = jN101 := by omega
        have pc101 : (0 : Int) ≤ (a : Int) := by omega
        have bc101 : (a : Int) < (d.size : Int) := by omega
        have rc101 : IntKind.i64.wrap ((a : Int)) = (a : Int) := by rw [IntKind.wrap_i64]; omega
        obtain ⟨x101, hx101⟩ : ∃ x, x = d[h]! := ⟨_, rfl⟩
        obtain ⟨y101, hy101⟩ : ∃ x, x = d[a]! := ⟨_, rfl⟩
        have l101a := S1.out.cl R (by omega) (h) (by omega)
        have l101b := S1.out.cl R (by omega) (a) (by omega)
        rw [← hx101, ← hiN101] at l101a
        rw [← hy101, ← hjN101] at l101b
        have hc101 := S1.out.cmp HC.out (by omega) x101 y101
        have hv101 : cf x101 y101 < 0 := by rw [hx101, hy101]; exact (HCF.out _ _).2 hk
        have hd101 : decide (cf x101 y101 < 0) = true := decide_eq_true hv101
        clear hx101 hy101 hiN101 hjN101
        go_wp2_with fail
        go_quiet_grown (first | (go_at_fn g; refine Calls.grown_of (hc101 _ _)))
        have S2 : Aside (SW (Value.int .i64) w0 blk off d (grow (wr.drewN nq) osq)) := S1.out.grown nq osq
        clear l101a l101b hc101 S1
        generalize grow (wr.drewN nq) osq = w2 at S2 ⊢
        clear nq osq
        clear ea101 ec101
        go_wp2
        go_roundg (j - (h + 1))
        case measure => omega
        case rel => exact ⟨h + 1, j, by go_num, rfl, by omega, by omega, hjb, Nat.le_refl _, S2, (show Hid _ from ⟨.inr (by rw [Nat.add_sub_cancel]; exact hk), HI.out.2⟩)⟩
      · obtain ⟨iN102, hiN102⟩ : ∃ q, q = h := ⟨_, rfl⟩
        obtain ⟨jN102, hjN102⟩ : ∃ q, q = a := ⟨_, rfl⟩
        have ea102 : ((h : Int)).toNat = iN102 := by omega
        have pa102 : (0 : Int) ≤ (h : Int) := by omega
        have ba102 : (h : Int) < (d.size : Int) := by omega
        have ra102 : IntKind.i64.wrap ((h : Int)) = (h : Int) := by rw [IntKind.wrap_i64]; omega
        have ec102 : ((a : Int)).toNat = jN102 := by omega
        have pc102 : (0 : Int) ≤ (a : Int) := by omega
        have bc102 : (a : Int) < (d.size : Int) := by omega
        have rc102 : IntKind.i64.wrap ((a : Int)) = (a : Int) := by rw [IntKind.wrap_i64]; omega
        obtain ⟨x102, hx102⟩ : ∃ x, x = d[h]! := ⟨_, rfl⟩
        obtain ⟨y102, hy102⟩ : ∃ x, x = d[a]! := ⟨_, rfl⟩
        have l102a := S1.out.cl R (by omega) (h) (by omega)
        have l102b := S1.out.cl R (by omega) (a) (by omega)
        rw [← hx102, ← hiN102] at l102a
        rw [← hy102, ← hjN102] at l102b
        have hc102 := S1.out.cmp HC.out (by omega) x102 y102
        have hv102 : ¬ cf x102 y102 < 0 := by rw [hx102, hy102]; exact fun h => hk ((HCF.out _ _).1 h)
        have hd102 : decide (cf x102 y102 < 0) = false := decide_eq_false hv102
        clear hx102 hy102 hiN102 hjN102
        go_wp2_with fail
        go_quiet_grown (first | (go_at_fn g; refine Calls.grown_of (hc102 _ _)))
        have S2 : Aside (SW (Value.int .i64) w0 blk off d (grow (wr.drewN nq) osq)) := S1.out.grown nq osq
        clear l102a l102b hc102 S1
        generalize grow (wr.drewN nq) osq = w2 at S2 ⊢
        clear nq osq
        clear ea102 ec102
        go_wp2
        go_roundg (h - i)
        case measure => omega
        case rel => exact ⟨i, h, rfl, rfl, hmi, h1, by omega, Nat.le_refl _, S2, (show Hid _ from ⟨HI.out.1, .inr hk⟩)⟩
    · have hltz : ¬ (i : Int) < (j : Int) := by omega
      obtain rfl : j = i := by omega
      have hwi : IntKind.i64.wrap ((j : Int) - 1) = ((j - 1 : Nat) : Int) := by rw [IntKind.wrap_i64] <;> omega
      obtain ⟨e, he⟩ : ∃ e, e = j - 1 := ⟨_, rfl⟩
      rw [← he] at hwi
      go_wp2
      go_loopg [13] (e - a) (fun kx s13 wr2 => ∃ (k : Nat) (dk : Array Int), s13 = .int .i64 k ∧ a ≤ k ∧ k ≤ e ∧ e - k ≤ kx ∧ dk.size = d.size ∧ Aside (SW (Value.int .i64) w0 blk off dk wr2) ∧ Hid (IsRot a (a + 1) (k + 1) d dk))
      case atStart => exact ⟨a, d, rfl, Nat.le_refl _, by omega, Nat.le_refl _, rfl, S1, IsRot.nil d⟩
      case round =>
        clear S1
        obtain ⟨k, dk, rfl, hak, hke, hkx2, hds, S2, HR⟩ := hrel
        by_cases hlk : k < e
        · have hlz : (k : Int) < (e : Int) := by omega
          go_wp2_with fail
          obtain ⟨iN103, hiN103⟩ : ∃ q, q = k := ⟨_, rfl⟩
          obtain ⟨jN103, hjN103⟩ : ∃ q, q = k + 1 := ⟨_, rfl⟩
          have ea103 : ((k : Int)).toNat = iN103 := by omega
          have pa103 : (0 : Int) ≤ (k : Int) := by omega
          have ba103 : (k : Int) < (d.size : Int) := by omega
          have ra103 : IntKind.i64.wrap ((k : Int)) = (k : Int) := by rw [IntKind.wrap_i64]; omega
          have ec103 : ((k : Int) + 1).toNat = jN103 := by omega
          have pc103 : (0 : Int) ≤ (k : Int) + 1 := by omega
          have bc103 : (k : Int) + 1 < (d.size : Int) := by omega
          have rc103 : IntKind.i64.wrap ((k : Int) + 1) = (k : Int) + 1 := by rw [IntKind.wrap_i64]; omega
          obtain ⟨x103, hx103⟩ : ∃ x, x = dk[k]! := ⟨_, rfl⟩
          obtain ⟨y103, hy103⟩ : ∃ x, x = dk[k + 1]! := ⟨_, rfl⟩
          have S3 : Aside (SW (Value.int .i64) w0 blk off (swp dk (k) (k + 1)) ((wr.setCell ⟨blk, off + iN103, none⟩ (.int .i64 y103)).setCell ⟨blk, off + jN103, none⟩ (.int .i64 x103)).drew) := by rw [hiN103, hjN103, hx103, hy103]; exact S2.out.swapped R (k) (k + 1) (by omega) (by omega)
          have c103a := S2.out.c1 R (by omega) (k) (by omega)
          have c103b := S2.out.c1 R (by omega) (k + 1) (by omega)
          have f103a := S2.out.f1 R (by omega) (k) (by omega)
          have f103b := S2.out.f1 R (by omega) (k + 1) (by omega)
          obtain ⟨u103, c103c⟩ := S2.out.c2 R (by omega) (k) (k + 1) (by omega) (by omega) (.int .i64 y103)
          rw [← hjN103, ← hiN103] at c103c
          rw [← hx103, ← hiN103] at c103a
          rw [← hy103, ← hjN103] at c103b
          rw [← hiN103] at f103a
          rw [← hjN103] at f103b
          clear S2 hx103 hy103 hiN103 hjN103
          go_wp2_with fail
          go_big_region_o
          clear c103a c103b c103c f103a f103b
          generalize ((wr.setCell ⟨blk, off + iN103, none⟩ (.int .i64 y103)).setCell ⟨blk, off + jN103, none⟩ (.int .i64 x103)).drew = w3 at S3 ⊢
          clear ea103 ec103
          go_wp2
          go_roundg (e - (k + 1))
          case measure => omega
          case rel => exact ⟨k + 1, _, by go_num, by omega, by omega, Nat.le_refl _, by rw [size_swp]; exact hds, S3, (show Hid _ from rot_right hak (by omega) HR.out)⟩
        · have hlz : ¬ (k : Int) < (e : Int) := by omega
          obtain rfl : k = e := by omega
          go_wp2
          refine bodyPost_ret (results_none rfl _ _ _) rfl ?_
          have hrot : IsRot a m j d dk := by
            have := HR.out
            rw [he, show j - 1 + 1 = j from by omega] at this
            rw [show m = a + 1 from by omega]; exact this
          obtain ⟨r1, r2, r3, r4, r5, r6⟩ := rot_facts (a := a) (s := a) (Nat.le_refl _) (by omega) hmi hjb hb HS1.out HS2.out (.inl rfl) (by
            rcases HI.out.1 with h | h
            · exact .inr (.inl h)
            · exact .inr (.inr h)) hrot
          refine ⟨rfl, dk, r1, Srt.join (c := a + (j - m)) r3 (Srt.join (c := j) r4 r5 fun x y x1 x2 y1 y2 => ?_) r6, S2.out⟩
          obtain rfl : x = a + (j - m) := by omega
          rw [hrot.2, if_neg (by omega), if_pos ⟨by omega, by omega⟩, hrot.2, if_neg (by omega), if_neg (by omega), show a + (j - m) - (j - m) = a from by omega]
          rcases HI.out.2 with h | h
          · omega
          · by_cases hy : y = j
            · subst hy; omega
            · have := HS2.out j y hmi (by omega) y2
              omega

set_option maxHeartbeats 16000000 in
set_option maxRecDepth 1000000 in
theorem symRight_I (g : Nat) (cb : Array Value) (eg : ∀ args w, (callFunc g args).run Try.prog w = .ok (.enter g args) w) {cf : Int → Int → Int} {key : Int → Int} (hcf : ∀ x y, cf x y < 0 ↔ key x < key y) (blk off cap : Nat) (d0 : Array Int) (w0 : World) (hsz : d0.size < 4611686018427387904)
    (hcmp : CmpLays1 Try.prog g cb (Value.int .i64) cf blk off d0.size w0) (R : Row1 (Value.int .i64) w0 blk off d0)
    (a m b : Nat) (d : Array Int) (w : World) (hs : d0.size = d.size) (S : SW (Value.int .i64) w0 blk off d w) (hm : b = m + 1) (ham : a + 1 < m) (hb : b ≤ d.size) (s1 : Srt key a m d) (s2 : Srt key m b d) :
    Calls Try.prog 66 #[.slice (some ⟨blk, off, none⟩) d.size cap, .int .i64 a, .int .i64 m, .int .i64 b, .func (.func g) #[] cb] w fun e w' => e = .returned (.tuple #[]) ∧ ∃ d', Mrg key a b d d' ∧ Srt key a b d' ∧ SW (Value.int .i64) w0 blk off d' w' := by
  have mixed : Try.prog.follows .mixedOrders = true := by kernel_rfl
  have S0 : Aside (SW (Value.int .i64) w0 blk off d w) := S
  clear S
  have HC : Aside _ := hcmp
  have HCF := Lib.hid hcf
  have HS1 := Lib.hid s1
  have HS2 := Lib.hid s2
  have hm1 : b ≤ m + 1 := by omega
  have hm2 : m + 1 ≤ b := by omega
  clear hcmp hcf s1 s2 hm
  rw [hs] at hsz
  obtain ⟨u, hu⟩ : ∃ u : Int, u = (m : Int) - (a : Int) := ⟨_, rfl⟩
  have hw0 : IntKind.i64.wrap ((m : Int) - (a : Int)) = u := by rw [IntKind.wrap_i64] <;> omega
  have hu1 : ¬ u = 1 := by omega
  have hub : (u == 1) = false := by simpa using hu1
  have hw1 : IntKind.i64.wrap ((b : Int) - (m : Int)) = 1 := by rw [IntKind.wrap_i64] <;> omega
  clear hu
  go_enter Try.func66, Try.ntmps66
  go_wp2
  go_loopg [14, 15] (m - a) (fun kx s14 s15 wr => ∃ (i j : Nat), s14 = .int .i64 i ∧ s15 = .int .i64 j ∧ a ≤ i ∧ i ≤ j ∧ j ≤ m ∧ j - i ≤ kx ∧ Aside (SW (Value.int .i64) w0 blk off d wr) ∧ Hid ((i = a ∨ ¬ key d[m]! < key d[i - 1]!) ∧ (j = m ∨ key d[m]! < key d[j]!)))
  case atStart => exact ⟨a, m, rfl, rfl, Nat.le_refl _, by omega, Nat.le_refl _, Nat.le_refl _, S0, (show Hid _ from ⟨.inl rfl, .inl rfl⟩)⟩
  case round =>
    clear S0
    obtain ⟨i, j, rfl, rfl, hmi, hij, hjb, hkx, S1, HI⟩ := hrel
    by_cases hlt : i < j
    · have hltz : (i : Int) < (j : Int) := by omega
      obtain ⟨h, hh⟩ : ∃ h, h = (i + j) / 2 := ⟨_, rfl⟩
      have zh : ((i : Int) + (j : Int)) / 2 = (h : Int) := by omega
      have h1 : i ≤ h := by omega
      have h2 : h < j := by omega
      clear hh
      go_wp2_with fail
      by_cases hk : key d[m]! < key d[h]!
      · obtain ⟨iN104, hiN104⟩ : ∃ q, q = m := ⟨_, rfl⟩
        obtain ⟨jN104, hjN104⟩ : ∃ q, q = h := ⟨_, rfl⟩
        have ea104 : ((m : Int)).toNat = iN104 := by omega
        have pa104 : (0 : Int) ≤ (m : Int) := by omega
        have ba104 : (m : Int) < (d.size : Int) := by omega
        have ra104 : IntKind.i64.wrap ((m : Int)) = (m : Int) := by rw [IntKind.wrap_i64]; omega
        have ec104 : ((h : Int)).toNat = jN104 := by omega
        have pc104 : (0 : Int) ≤ (h : Int) := by omega
        have bc104 : (h : Int) < (d.size : Int) := by omega
        have rc104 : IntKind.i64.wrap ((h : Int)) = (h : Int) := by rw [IntKind.wrap_i64]; omega
        obtain ⟨x104, hx104⟩ : ∃ x, x = d[m]! := ⟨_, rfl⟩
        obtain ⟨y104, hy104⟩ : ∃ x, x = d[h]! := ⟨_, rfl⟩
        have l104a := S1.out.cl R (by omega) (m) (by omega)
        have l104b := S1.out.cl R (by omega) (h) (by omega)
        rw [← hx104, ← hiN104] at l104a
        rw [← hy104, ← hjN104] at l104b
        have hc104 := S1.out.cmp HC.out (by omega) x104 y104
        have hv104 : cf x104 y104 < 0 := by rw [hx104, hy104]; exact (HCF.out _ _).2 hk
        have hd104 : decide (cf x104 y104 < 0) = true := decide_eq_true hv104
        clear hx104 hy104 hiN104 hjN104
        go_wp2_with fail
        go_quiet_grown (first | (go_at_fn g; refine Calls.grown_of (hc104 _ _)))
        have S2 : Aside (SW (Value.int .i64) w0 blk off d (grow (wr.drewN nq) osq)) := S1.out.grown nq osq
        clear l104a l104b hc104 S1
        generalize grow (wr.drewN nq) osq = w2 at S2 ⊢
        clear nq osq
        clear ea104 ec104
        go_wp2
        go_roundg (h - i)
        case measure => omega
        case rel => exact ⟨i, h, rfl, rfl, hmi, h1, by omega, Nat.le_refl _, S2, (show Hid _ from ⟨HI.out.1, .inr hk⟩)⟩
      · obtain ⟨iN105, hiN105⟩ : ∃ q, q = m := ⟨_, rfl⟩
        obtain ⟨jN105, hjN105⟩ : ∃ q, q = h := ⟨_, rfl⟩
        have ea105 : ((m : Int)).toNat = iN105 := by omega
        have pa105 : (0 : Int) ≤ (m : Int) := by omega
        have ba105 : (m : Int) < (d.size : Int) := by omega
        have ra105 : IntKind.i64.wrap ((m : Int)) = (m : Int) := by rw [IntKind.wrap_i64]; omega
        have ec105 : ((h : Int)).toNat = jN105 := by omega
        have pc105 : (0 : Int) ≤ (h : Int) := by omega
        have bc105 : (h : Int) < (d.size : Int) := by omega
        have rc105 : IntKind.i64.wrap ((h : Int)) = (h : Int) := by rw [IntKind.wrap_i64]; omega
        obtain ⟨x105, hx105⟩ : ∃ x, x = d[m]! := ⟨_, rfl⟩
        obtain ⟨y105, hy105⟩ : ∃ x, x = d[h]! := ⟨_, rfl⟩
        have l105a := S1.out.cl R (by omega) (m) (by omega)
        have l105b := S1.out.cl R (by omega) (h) (by omega)
        rw [← hx105, ← hiN105] at l105a
        rw [← hy105, ← hjN105] at l105b
        have hc105 := S1.out.cmp HC.out (by omega) x105 y105
        have hv105 : ¬ cf x105 y105 < 0 := by rw [hx105, hy105]; exact fun h => hk ((HCF.out _ _).1 h)
        have hd105 : decide (cf x105 y105 < 0) = false := decide_eq_false hv105
        clear hx105 hy105 hiN105 hjN105
        go_wp2_with fail
        go_quiet_grown (first | (go_at_fn g; refine Calls.grown_of (hc105 _ _)))
        have S2 : Aside (SW (Value.int .i64) w0 blk off d (grow (wr.drewN nq) osq)) := S1.out.grown nq osq
        clear l105a l105b hc105 S1
        generalize grow (wr.drewN nq) osq = w2 at S2 ⊢
        clear nq osq
        clear ea105 ec105
        go_wp2
        go_roundg (j - (h + 1))
        case measure => omega
        case rel => exact ⟨h + 1, j, by go_num, rfl, by omega, by omega, hjb, Nat.le_refl _, S2, (show Hid _ from ⟨.inr (by rw [Nat.add_sub_cancel]; exact hk), HI.out.2⟩)⟩
    · have hltz : ¬ (i : Int) < (j : Int) := by omega
      obtain rfl : j = i := by omega
      go_wp2
      go_loopg [17] (m - j) (fun kx s17 wr2 => ∃ (k : Nat) (dk : Array Int), s17 = .int .i64 k ∧ j ≤ k ∧ k ≤ m ∧ k - j ≤ kx ∧ dk.size = d.size ∧ Aside (SW (Value.int .i64) w0 blk off dk wr2) ∧ Hid (IsRot k m (m + 1) d dk))
      case atStart => exact ⟨m, d, rfl, hjb, Nat.le_refl _, Nat.le_refl _, rfl, S1, IsRot.nil' d⟩
      case round =>
        clear S1
        obtain ⟨k, dk, rfl, hak, hke, hkx2, hds, S2, HR⟩ := hrel
        by_cases hlk : j < k
        · have hlz : (j : Int) < (k : Int) := by omega
          have hlz2 : decide ((k : Int) > (j : Int)) = true := decide_eq_true (by omega)
          obtain ⟨kp, hkp⟩ : ∃ q, q + 1 = k := ⟨k - 1, by omega⟩
          have zkp : IntKind.i64.wrap ((k : Int) - 1) = (kp : Int) := by rw [IntKind.wrap_i64] <;> omega
          go_wp2_with fail
          obtain ⟨iN106, hiN106⟩ : ∃ q, q = k := ⟨_, rfl⟩
          obtain ⟨jN106, hjN106⟩ : ∃ q, q = k - 1 := ⟨_, rfl⟩
          have ea106 : ((k : Int)).toNat = iN106 := by omega
          have pa106 : (0 : Int) ≤ (k : Int) := by omega
          have ba106 : (k : Int) < (d.size : Int) := by omega
          have ra106 : IntKind.i64.wrap ((k : Int)) = (k : Int) := by rw [IntKind.wrap_i64]; omega
          have ec106 : ((kp : Int)).toNat = jN106 := by omega
          have pc106 : (0 : Int) ≤ (kp : Int) := by omega
          have bc106 : (kp : Int) < (d.size : Int) := by omega
          have rc106 : IntKind.i64.wrap ((kp : Int)) = (kp : Int) := by rw [IntKind.wrap_i64]; omega
          obtain ⟨x106, hx106⟩ : ∃ x, x = dk[k]! := ⟨_, rfl⟩
          obtain ⟨y106, hy106⟩ : ∃ x, x = dk[k - 1]! := ⟨_, rfl⟩
          have S3 : Aside (SW (Value.int .i64) w0 blk off (swp dk (k) (k - 1)) ((wr.setCell ⟨blk, off + iN106, none⟩ (.int .i64 y106)).setCell ⟨blk, off + jN106, none⟩ (.int .i64 x106)).drew) := by rw [hiN106, hjN106, hx106, hy106]; exact S2.out.swapped R (k) (k - 1) (by omega) (by omega)
          have c106a := S2.out.c1 R (by omega) (k) (by omega)
          have c106b := S2.out.c1 R (by omega) (k - 1) (by omega)
          have f106a := S2.out.f1 R (by omega) (k) (by omega)
          have f106b := S2.out.f1 R (by omega) (k - 1) (by omega)
          obtain ⟨u106, c106c⟩ := S2.out.c2 R (by omega) (k) (k - 1) (by omega) (by omega) (.int .i64 y106)
          rw [← hjN106, ← hiN106] at c106c
          rw [← hx106, ← hiN106] at c106a
          rw [← hy106, ← hjN106] at c106b
          rw [← hiN106] at f106a
          rw [← hjN106] at f106b
          clear S2 hx106 hy106 hiN106 hjN106
          go_wp2_with fail
          go_big_region_o
          clear c106a c106b c106c f106a f106b
          generalize ((wr.setCell ⟨blk, off + iN106, none⟩ (.int .i64 y106)).setCell ⟨blk, off + jN106, none⟩ (.int .i64 x106)).drew = w3 at S3 ⊢
          clear ea106 ec106
          go_wp2
          go_roundg (k - 1 - j)
          case measure => omega
          case rel => exact ⟨k - 1, _, by first | rfl | go_num | (congr 1; omega), by omega, by omega, Nat.le_refl _, by rw [size_swp]; exact hds, S3, (show Hid _ from rot_left (by omega) hke (by omega) HR.out)⟩
        · have hlz : ¬ (j : Int) < (k : Int) := by omega
          have hlz2 : decide ((k : Int) > (j : Int)) = false := decide_eq_false (by omega)
          obtain rfl : k = j := by omega
          go_wp2
          refine bodyPost_ret (results_none rfl _ _ _) rfl ?_
          have hrot : IsRot k m b d dk := by
            rw [show b = m + 1 from by omega]; exact HR.out
          obtain ⟨r1, r2, r3, r4, r5, r6⟩ := rot_facts (a := a) (s := k) (m := m) (e := b) (b := b) (by omega) hjb (by omega) (Nat.le_refl _) hb HS1.out HS2.out (.inr (.inl rfl)) (by
            rcases HI.out.2 with h | h
            · exact .inl h
            · refine .inr (.inr ?_)
              rw [show b - 1 = m from by omega]
              exact h) hrot
          refine ⟨rfl, dk, r1, Srt.join (c := k + (b - m)) (Srt.join (c := k) r2 r3 fun x y x1 x2 y1 y2 => ?_) (Srt.join (c := b) r4 (fun x y q1 q2 q3 => by omega) fun x y x1 x2 y1 y2 => by omega) r6, S2.out⟩
          obtain rfl : y = k := by omega
          rw [hrot.2 x, if_neg (by omega), if_neg (by omega), hrot.2 y, if_pos ⟨by omega, by omega⟩, show y + (m - y) = m from by omega]
          rcases HI.out.1 with h | h
          · omega
          · by_cases hx : x = y - 1
            · subst hx; omega
            · have := HS1.out x (y - 1) x1 (by omega) (by omega)
              omega
end Go.Proofs.Ytfjipkkhjjpaiaa
