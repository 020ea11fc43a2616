/-
  A merge of one element with a stretch (slices.symMergeCmpFunc at items) over this seat's translation. Conditions: those that each theorem states.
-/
import Derived.Test.YtfjipkkhjjpaiaaStRotT
import Derived.Test.YtfjipkkhjjpaiaaStIns
import Derived.Test.YtfjipkkhjjpaiaaStSymAI
namespace Go.Proofs.Ytfjipkkhjjpaiaa
open Go.Shelf Go.RowKit Go.Lib Go.Sort St

set_option maxHeartbeats 16000000 in
set_option maxRecDepth 1000000 in
theorem symLeft_T (g : Nat) (cb : Array Value) (eg : ∀ args w, (callFunc g args).run Try.prog w = .ok (.enter g args) w) {cf : It → It → Int} {key : It → Int} (hcf : ∀ x y, cf x y < 0 ↔ key x < key y) (blk off cap : Nat) (d0 : Array It) (w0 : World) (hsz : d0.size < 4611686018427387904)
    (hcmp : ∀ W, CmpLays Try.prog g cb It.cells 2 cf blk off d0.size W) (R : RowK It.cells 2 w0 blk off d0)
    (a m b : Nat) (d : Array It) (w : World) (hs : d0.size = d.size) (S : SWK It.cells 2 w0 blk off d w) (hm : m = a + 1) (hmb : m < b) (hb : b ≤ d.size) (s1 : Srt key a m d) (s2 : Srt key m b d) :
    Calls Try.prog 63 #[.slice (some ⟨blk, off, none⟩) d.size cap, .int .i64 a, .int .i64 m, .int .i64 b, .func (.func g) #[] cb] w fun e w' => e = .returned (.tuple #[]) ∧ ∃ d', Mrg key a b d d' ∧ Srt key a b d' ∧ SWK It.cells 2 w0 blk off d' w' := by
  have mixed : Try.prog.follows .mixedOrders = true := by kernel_rfl
  have S0 : Aside (SWK It.cells 2 w0 blk off d w) := S
  clear S
  have HC : Aside _ := hcmp
  have HCF := Lib.hid hcf
  have HS1 := Lib.hid s1
  have HS2 := Lib.hid s2
  have hm1 : m ≤ a + 1 := by omega
  have hm2 : a + 1 ≤ m := by omega
  clear hcmp hcf s1 s2 hm
  rw [hs] at hsz
  have hw1 : IntKind.i64.wrap ((m : Int) - (a : Int)) = 1 := by rw [IntKind.wrap_i64] <;> omega
  go_enter Try.func63, Try.ntmps63
  go_wp2
  go_loopg [10, 11] (b - m) (fun kx s10 s11 wr => ∃ (i j : Nat), s10 = .int .i64 i ∧ s11 = .int .i64 j ∧ m ≤ i ∧ i ≤ j ∧ j ≤ b ∧ j - i ≤ kx ∧ Aside (SWK It.cells 2 w0 blk off d wr) ∧ Hid ((i = m ∨ key d[i - 1]! < key d[a]!) ∧ (j = b ∨ ¬ key d[j]! < key d[a]!)))
  case atStart => exact ⟨m, b, rfl, rfl, Nat.le_refl _, by omega, Nat.le_refl _, Nat.le_refl _, S0, (show Hid _ from ⟨.inl rfl, .inl rfl⟩)⟩
  case round =>
    clear S0
    obtain ⟨i, j, rfl, rfl, hmi, hij, hjb, hkx, S1, HI⟩ := hrel
    by_cases hlt : i < j
    · have hltz : (i : Int) < (j : Int) := by omega
      obtain ⟨h, hh⟩ : ∃ h, h = (i + j) / 2 := ⟨_, rfl⟩
      have zh : ((i : Int) + (j : Int)) / 2 = (h : Int) := by omega
      have h1 : i ≤ h := by omega
      have h2 : h < j := by omega
      clear hh
      go_wp2_with fail
      by_cases hk : key d[h]! < key d[a]!
      · obtain ⟨iN112, hiN112⟩ : ∃ q, q = h := ⟨_, rfl⟩
        obtain ⟨jN112, hjN112⟩ : ∃ q, q = a := ⟨_, rfl⟩
        have ea112 : ((h : Int)).toNat = iN112 := by omega
        have pa112 : (0 : Int) ≤ (h : Int) := by omega
        have ba112 : (h : Int) < (d.size : Int) := by omega
        have ra112 : IntKind.i64.wrap ((h : Int)) = (h : Int) := by rw [IntKind.wrap_i64]; omega
        have ec112 : ((a : Int)).toNat = jN112 := by omega
        have pc112 : (0 : Int) ≤ (a : Int) := by omega
        have bc112 : (a : Int) < (d.size : Int) := by omega
        have rc112 : IntKind.i64.wrap ((a : Int)) = (a : Int) := by rw [IntKind.wrap_i64]; omega
        obtain ⟨oI112, hoI112⟩ : ∃ q, off + iN112 * 2 = q := ⟨_, rfl⟩
        obtain ⟨oJ112, hoJ112⟩ : ∃ q, off + jN112 * 2 = q := ⟨_, rfl⟩
        obtain ⟨xa112, hxa112⟩ : ∃ x, x = d[h]!.1 := ⟨_, rfl⟩
        obtain ⟨xb112, hxb112⟩ : ∃ x, x = d[h]!.2 := ⟨_, rfl⟩
        obtain ⟨ya112, hya112⟩ : ∃ x, x = d[a]!.1 := ⟨_, rfl⟩
        obtain ⟨yb112, hyb112⟩ : ∃ x, x = d[a]!.2 := ⟨_, rfl⟩
        obtain ⟨c112a, c112b⟩ := it_cells_grown S1.out R (by omega) (h) (by omega)
        obtain ⟨c112c, c112d⟩ := it_cells_grown S1.out R (by omega) (a) (by omega)
        rw [← hxa112] at c112a
        rw [← hxb112] at c112b
        rw [← hya112] at c112c
        rw [← hyb112] at c112d
        simp only [← hiN112, hoI112] at c112a c112b
        simp only [← hjN112, hoJ112] at c112c c112d
        have hc112 := S1.out.cmp (HC.out w0) (by omega) (xa112, xb112) (ya112, yb112)
        dsimp only [It.cells] at hc112
        have hv112 : cf (xa112, xb112) (ya112, yb112) < 0 := by rw [hxa112, hxb112, hya112, hyb112]; exact (HCF.out _ _).2 hk
        have hd112 : decide (cf (xa112, xb112) (ya112, yb112) < 0) = true := decide_eq_true hv112
        clear hxa112 hxb112 hya112 hyb112 hiN112 hjN112
        go_wp2_with fail
        go_quiet_grown (first | (go_at_fn g; refine Calls.grown_of (hc112 _ _)))
        have S2 : Aside (SWK It.cells 2 w0 blk off d (grow (wr.drewN nq) osq)) := S1.out.grown nq osq
        clear c112a c112b c112c c112d hc112 S1
        generalize grow (wr.drewN nq) osq = w2 at S2 ⊢
        clear nq osq
        clear ea112 ec112 hoI112 hoJ112
        go_wp2
        go_roundg (j - (h + 1))
        case measure => omega
        case rel => exact ⟨h + 1, j, by go_num, rfl, by omega, by omega, hjb, Nat.le_refl _, S2, (show Hid _ from ⟨.inr (by rw [Nat.add_sub_cancel]; exact hk), HI.out.2⟩)⟩
      · obtain ⟨iN113, hiN113⟩ : ∃ q, q = h := ⟨_, rfl⟩
        obtain ⟨jN113, hjN113⟩ : ∃ q, q = a := ⟨_, rfl⟩
        have ea113 : ((h : Int)).toNat = iN113 := by omega
        have pa113 : (0 : Int) ≤ (h : Int) := by omega
        have ba113 : (h : Int) < (d.size : Int) := by omega
        have ra113 : IntKind.i64.wrap ((h : Int)) = (h : Int) := by rw [IntKind.wrap_i64]; omega
        have ec113 : ((a : Int)).toNat = jN113 := by omega
        have pc113 : (0 : Int) ≤ (a : Int) := by omega
        have bc113 : (a : Int) < (d.size : Int) := by omega
        have rc113 : IntKind.i64.wrap ((a : Int)) = (a : Int) := by rw [IntKind.wrap_i64]; omega
        obtain ⟨oI113, hoI113⟩ : ∃ q, off + iN113 * 2 = q := ⟨_, rfl⟩
        obtain ⟨oJ113, hoJ113⟩ : ∃ q, off + jN113 * 2 = q := ⟨_, rfl⟩
        obtain ⟨xa113, hxa113⟩ : ∃ x, x = d[h]!.1 := ⟨_, rfl⟩
        obtain ⟨xb113, hxb113⟩ : ∃ x, x = d[h]!.2 := ⟨_, rfl⟩
        obtain ⟨ya113, hya113⟩ : ∃ x, x = d[a]!.1 := ⟨_, rfl⟩
        obtain ⟨yb113, hyb113⟩ : ∃ x, x = d[a]!.2 := ⟨_, rfl⟩
        obtain ⟨c113a, c113b⟩ := it_cells_grown S1.out R (by omega) (h) (by omega)
        obtain ⟨c113c, c113d⟩ := it_cells_grown S1.out R (by omega) (a) (by omega)
        rw [← hxa113] at c113a
        rw [← hxb113] at c113b
        rw [← hya113] at c113c
        rw [← hyb113] at c113d
        simp only [← hiN113, hoI113] at c113a c113b
        simp only [← hjN113, hoJ113] at c113c c113d
        have hc113 := S1.out.cmp (HC.out w0) (by omega) (xa113, xb113) (ya113, yb113)
        dsimp only [It.cells] at hc113
        have hv113 : ¬ cf (xa113, xb113) (ya113, yb113) < 0 := by rw [hxa113, hxb113, hya113, hyb113]; exact fun h => hk ((HCF.out _ _).1 h)
        have hd113 : decide (cf (xa113, xb113) (ya113, yb113) < 0) = false := decide_eq_false hv113
        clear hxa113 hxb113 hya113 hyb113 hiN113 hjN113
        go_wp2_with fail
        go_quiet_grown (first | (go_at_fn g; refine Calls.grown_of (hc113 _ _)))
        have S2 : Aside (SWK It.cells 2 w0 blk off d (grow (wr.drewN nq) osq)) := S1.out.grown nq osq
        clear c113a c113b c113c c113d hc113 S1
        generalize grow (wr.drewN nq) osq = w2 at S2 ⊢
        clear nq osq
        clear ea113 ec113 hoI113 hoJ113
        go_wp2
        go_roundg (h - i)
        case measure => omega
        case rel => exact ⟨i, h, rfl, rfl, hmi, h1, by omega, Nat.le_refl _, S2, (show Hid _ from ⟨HI.out.1, .inr hk⟩)⟩
    · have hltz : ¬ (i : Int) < (j : Int) := by omega
      obtain rfl : j = i := by omega
      have hwi : IntKind.i64.wrap ((j : Int) - 1) = ((j - 1 : Nat) : Int) := by rw [IntKind.wrap_i64] <;> omega
      obtain ⟨e, he⟩ : ∃ e, e = j - 1 := ⟨_, rfl⟩
      rw [← he] at hwi
      go_wp2
      go_loopg [13] (e - a) (fun kx s13 wr2 => ∃ (k : Nat) (dk : Array It), s13 = .int .i64 k ∧ a ≤ k ∧ k ≤ e ∧ e - k ≤ kx ∧ dk.size = d.size ∧ Aside (SWK It.cells 2 w0 blk off dk wr2) ∧ Hid (IsRot a (a + 1) (k + 1) d dk))
      case atStart => exact ⟨a, d, rfl, Nat.le_refl _, by omega, Nat.le_refl _, rfl, S1, IsRot.nil d⟩
      case round =>
        clear S1
        obtain ⟨k, dk, rfl, hak, hke, hkx2, hds, S2, HR⟩ := hrel
        by_cases hlk : k < e
        · have hlz : (k : Int) < (e : Int) := by omega
          go_wp2_with fail
          obtain ⟨iN114, hiN114⟩ : ∃ q, q = k := ⟨_, rfl⟩
          obtain ⟨jN114, hjN114⟩ : ∃ q, q = k + 1 := ⟨_, rfl⟩
          have ea114 : ((k : Int)).toNat = iN114 := by omega
          have pa114 : (0 : Int) ≤ (k : Int) := by omega
          have ba114 : (k : Int) < (d.size : Int) := by omega
          have ra114 : IntKind.i64.wrap ((k : Int)) = (k : Int) := by rw [IntKind.wrap_i64]; omega
          have ec114 : ((k : Int) + 1).toNat = jN114 := by omega
          have pc114 : (0 : Int) ≤ (k : Int) + 1 := by omega
          have bc114 : (k : Int) + 1 < (d.size : Int) := by omega
          have rc114 : IntKind.i64.wrap ((k : Int) + 1) = (k : Int) + 1 := by rw [IntKind.wrap_i64]; omega
          obtain ⟨oI114, hoI114⟩ : ∃ q, off + iN114 * 2 = q := ⟨_, rfl⟩
          obtain ⟨oJ114, hoJ114⟩ : ∃ q, off + jN114 * 2 = q := ⟨_, rfl⟩
          obtain ⟨xa114, hxa114⟩ : ∃ x, x = dk[k]!.1 := ⟨_, rfl⟩
          obtain ⟨xb114, hxb114⟩ : ∃ x, x = dk[k]!.2 := ⟨_, rfl⟩
          obtain ⟨ya114, hya114⟩ : ∃ x, x = dk[k + 1]!.1 := ⟨_, rfl⟩
          obtain ⟨yb114, hyb114⟩ : ∃ x, x = dk[k + 1]!.2 := ⟨_, rfl⟩
          have S3 : Aside (SWK It.cells 2 w0 blk off (swp dk (k) (k + 1)) (((((wr.setCell ⟨blk, oI114, none⟩ (.int .i64 ya114)).setCell ⟨blk, oI114 + 1, none⟩ (.int .i64 yb114)).setCell ⟨blk, oJ114, none⟩ (.int .i64 xa114)).setCell ⟨blk, oJ114 + 1, none⟩ (.int .i64 xb114)).drew)) := by rw [← hoI114, ← hoJ114, hiN114, hjN114, hxa114, hxb114, hya114, hyb114]; exact it_swapped S2.out R (k) (k + 1) (by omega) (by omega)
          obtain ⟨⟨c114a, c114b⟩, f114a, f114b⟩ := it_cells S2.out R (by omega) (k) (by omega)
          obtain ⟨⟨c114c, c114d⟩, f114c, f114d⟩ := it_cells S2.out R (by omega) (k + 1) (by omega)
          rw [← hxa114] at c114a
          rw [← hxb114] at c114b
          rw [← hya114] at c114c
          rw [← hyb114] at c114d
          rw [← hiN114, hoI114] at c114a c114b f114a f114b
          rw [← hjN114, hoJ114] at c114c c114d f114c f114d
          have n114a : ¬ oI114 = oJ114 := by omega
          have n114b : ¬ oI114 + 1 = oJ114 := by omega
          have n114c : ¬ oI114 = oJ114 + 1 := by omega
          have n114d : ¬ oJ114 = oI114 := by omega
          have n114e : ¬ oJ114 + 1 = oI114 := by omega
          have n114f : ¬ oJ114 = oI114 + 1 := by omega
          clear S2 hxa114 hxb114 hya114 hyb114 hiN114 hjN114
          go_wp2_with fail
          go_big_region_o
          clear c114a c114b c114c c114d f114a f114b f114c f114d n114a n114b n114c n114d n114e n114f
          generalize (((((wr.setCell ⟨blk, oI114, none⟩ (.int .i64 ya114)).setCell ⟨blk, oI114 + 1, none⟩ (.int .i64 yb114)).setCell ⟨blk, oJ114, none⟩ (.int .i64 xa114)).setCell ⟨blk, oJ114 + 1, none⟩ (.int .i64 xb114)).drew) = w3 at S3 ⊢
          clear ea114 ec114 hoI114 hoJ114
          go_wp2
          go_roundg (e - (k + 1))
          case measure => omega
          case rel => exact ⟨k + 1, _, by go_num, by omega, by omega, Nat.le_refl _, by rw [size_swp]; exact hds, S3, (show Hid _ from rot_right hak (by omega) HR.out)⟩
        · have hlz : ¬ (k : Int) < (e : Int) := by omega
          obtain rfl : k = e := by omega
          go_wp2
          refine bodyPost_ret (results_none rfl _ _ _) rfl ?_
          have hrot : IsRot a m j d dk := by
            have := HR.out
            rw [he, show j - 1 + 1 = j from by omega] at this
            rw [show m = a + 1 from by omega]; exact this
          obtain ⟨r1, r2, r3, r4, r5, r6⟩ := rot_facts (a := a) (s := a) (Nat.le_refl _) (by omega) hmi hjb hb HS1.out HS2.out (.inl rfl) (by
            rcases HI.out.1 with h | h
            · exact .inr (.inl h)
            · exact .inr (.inr h)) hrot
          refine ⟨rfl, dk, r1, Srt.join (c := a + (j - m)) r3 (Srt.join (c := j) r4 r5 fun x y x1 x2 y1 y2 => ?_) r6, S2.out⟩
          obtain rfl : x = a + (j - m) := by omega
          rw [hrot.2, if_neg (by omega), if_pos ⟨by omega, by omega⟩, hrot.2, if_neg (by omega), if_neg (by omega), show a + (j - m) - (j - m) = a from by omega]
          rcases HI.out.2 with h | h
          · omega
          · by_cases hy : y = j
            · subst hy; omega
            · have := HS2.out j y hmi (by omega) y2
              omega

set_option maxHeartbeats 16000000 in
set_option maxRecDepth 1000000 in
theorem symRight_T (g : Nat) (cb : Array Value) (eg : ∀ args w, (callFunc g args).run Try.prog w = .ok (.enter g args) w) {cf : It → It → Int} {key : It → Int} (hcf : ∀ x y, cf x y < 0 ↔ key x < key y) (blk off cap : Nat) (d0 : Array It) (w0 : World) (hsz : d0.size < 4611686018427387904)
    (hcmp : ∀ W, CmpLays Try.prog g cb It.cells 2 cf blk off d0.size W) (R : RowK It.cells 2 w0 blk off d0)
    (a m b : Nat) (d : Array It) (w : World) (hs : d0.size = d.size) (S : SWK It.cells 2 w0 blk off d w) (hm : b = m + 1) (ham : a + 1 < m) (hb : b ≤ d.size) (s1 : Srt key a m d) (s2 : Srt key m b d) :
    Calls Try.prog 63 #[.slice (some ⟨blk, off, none⟩) d.size cap, .int .i64 a, .int .i64 m, .int .i64 b, .func (.func g) #[] cb] w fun e w' => e = .returned (.tuple #[]) ∧ ∃ d', Mrg key a b d d' ∧ Srt key a b d' ∧ SWK It.cells 2 w0 blk off d' w' := by
  have mixed : Try.prog.follows .mixedOrders = true := by kernel_rfl
  have S0 : Aside (SWK It.cells 2 w0 blk off d w) := S
  clear S
  have HC : Aside _ := hcmp
  have HCF := Lib.hid hcf
  have HS1 := Lib.hid s1
  have HS2 := Lib.hid s2
  have hm1 : b ≤ m + 1 := by omega
  have hm2 : m + 1 ≤ b := by omega
  clear hcmp hcf s1 s2 hm
  rw [hs] at hsz
  obtain ⟨u, hu⟩ : ∃ u : Int, u = (m : Int) - (a : Int) := ⟨_, rfl⟩
  have hw0 : IntKind.i64.wrap ((m : Int) - (a : Int)) = u := by rw [IntKind.wrap_i64] <;> omega
  have hu1 : ¬ u = 1 := by omega
  have hub : (u == 1) = false := by simpa using hu1
  have hw1 : IntKind.i64.wrap ((b : Int) - (m : Int)) = 1 := by rw [IntKind.wrap_i64] <;> omega
  clear hu
  go_enter Try.func63, Try.ntmps63
  go_wp2
  go_loopg [14, 15] (m - a) (fun kx s14 s15 wr => ∃ (i j : Nat), s14 = .int .i64 i ∧ s15 = .int .i64 j ∧ a ≤ i ∧ i ≤ j ∧ j ≤ m ∧ j - i ≤ kx ∧ Aside (SWK It.cells 2 w0 blk off d wr) ∧ Hid ((i = a ∨ ¬ key d[m]! < key d[i - 1]!) ∧ (j = m ∨ key d[m]! < key d[j]!)))
  case atStart => exact ⟨a, m, rfl, rfl, Nat.le_refl _, by omega, Nat.le_refl _, Nat.le_refl _, S0, (show Hid _ from ⟨.inl rfl, .inl rfl⟩)⟩
  case round =>
    clear S0
    obtain ⟨i, j, rfl, rfl, hmi, hij, hjb, hkx, S1, HI⟩ := hrel
    by_cases hlt : i < j
    · have hltz : (i : Int) < (j : Int) := by omega
      obtain ⟨h, hh⟩ : ∃ h, h = (i + j) / 2 := ⟨_, rfl⟩
      have zh : ((i : Int) + (j : Int)) / 2 = (h : Int) := by omega
      have h1 : i ≤ h := by omega
      have h2 : h < j := by omega
      clear hh
      go_wp2_with fail
      by_cases hk : key d[m]! < key d[h]!
      · obtain ⟨iN115, hiN115⟩ : ∃ q, q = m := ⟨_, rfl⟩
        obtain ⟨jN115, hjN115⟩ : ∃ q, q = h := ⟨_, rfl⟩
        have ea115 : ((m : Int)).toNat = iN115 := by omega
        have pa115 : (0 : Int) ≤ (m : Int) := by omega
        have ba115 : (m : Int) < (d.size : Int) := by omega
        have ra115 : IntKind.i64.wrap ((m : Int)) = (m : Int) := by rw [IntKind.wrap_i64]; omega
        have ec115 : ((h : Int)).toNat = jN115 := by omega
        have pc115 : (0 : Int) ≤ (h : Int) := by omega
        have bc115 : (h : Int) < (d.size : Int) := by omega
        have rc115 : IntKind.i64.wrap ((h : Int)) = (h : Int) := by rw [IntKind.wrap_i64]; omega
        obtain ⟨oI115, hoI115⟩ : ∃ q, off + iN115 * 2 = q := ⟨_, rfl⟩
        obtain ⟨oJ115, hoJ115⟩ : ∃ q, off + jN115 * 2 = q := ⟨_, rfl⟩
        obtain ⟨xa115, hxa115⟩ : ∃ x, x = d[m]!.1 := ⟨_, rfl⟩
        obtain ⟨xb115, hxb115⟩ : ∃ x, x = d[m]!.2 := ⟨_, rfl⟩
        obtain ⟨ya115, hya115⟩ : ∃ x, x = d[h]!.1 := ⟨_, rfl⟩
        obtain ⟨yb115, hyb115⟩ : ∃ x, x = d[h]!.2 := ⟨_, rfl⟩
        obtain ⟨c115a, c115b⟩ := it_cells_grown S1.out R (by omega) (m) (by omega)
        obtain ⟨c115c, c115d⟩ := it_cells_grown S1.out R (by omega) (h) (by omega)
        rw [← hxa115] at c115a
        rw [← hxb115] at c115b
        rw [← hya115] at c115c
        rw [← hyb115] at c115d
        simp only [← hiN115, hoI115] at c115a c115b
        simp only [← hjN115, hoJ115] at c115c c115d
        have hc115 := S1.out.cmp (HC.out w0) (by omega) (xa115, xb115) (ya115, yb115)
        dsimp only [It.cells] at hc115
        have hv115 : cf (xa115, xb115) (ya115, yb115) < 0 := by rw [hxa115, hxb115, hya115, hyb115]; exact (HCF.out _ _).2 hk
        have hd115 : decide (cf (xa115, xb115) (ya115, yb115) < 0) = true := decide_eq_true hv115
        clear hxa115 hxb115 hya115 hyb115 hiN115 hjN115
        go_wp2_with fail
        go_quiet_grown (first | (go_at_fn g; refine Calls.grown_of (hc115 _ _)))
        have S2 : Aside (SWK It.cells 2 w0 blk off d (grow (wr.drewN nq) osq)) := S1.out.grown nq osq
        clear c115a c115b c115c c115d hc115 S1
        generalize grow (wr.drewN nq) osq = w2 at S2 ⊢
        clear nq osq
        clear ea115 ec115 hoI115 hoJ115
        go_wp2
        go_roundg (h - i)
        case measure => omega
        case rel => exact ⟨i, h, rfl, rfl, hmi, h1, by omega, Nat.le_refl _, S2, (show Hid _ from ⟨HI.out.1, .inr hk⟩)⟩
      · obtain ⟨iN116, hiN116⟩ : ∃ q, q = m := ⟨_, rfl⟩
        obtain ⟨jN116, hjN116⟩ : ∃ q, q = h := ⟨_, rfl⟩
        have ea116 : ((m : Int)).toNat = iN116 := by omega
        have pa116 : (0 : Int) ≤ (m : Int) := by omega
        have ba116 : (m : Int) < (d.size : Int) := by omega
        have ra116 : IntKind.i64.wrap ((m : Int)) = (m : Int) := by rw [IntKind.wrap_i64]; omega
        have ec116 : ((h : Int)).toNat = jN116 := by omega
        have pc116 : (0 : Int) ≤ (h : Int) := by omega
        have bc116 : (h : Int) < (d.size : Int) := by omega
        have rc116 : IntKind.i64.wrap ((h : Int)) = (h : Int) := by rw [IntKind.wrap_i64]; omega
        obtain ⟨oI116, hoI116⟩ : ∃ q, off + iN116 * 2 = q := ⟨_, rfl⟩
        obtain ⟨oJ116, hoJ116⟩ : ∃ q, off + jN116 * 2 = q := ⟨_, rfl⟩
        obtain ⟨xa116, hxa116⟩ : ∃ x, x = d[m]!.1 := ⟨_, rfl⟩
        obtain ⟨xb116, hxb116⟩ : ∃ x, x = d[m]!.2 := ⟨_, rfl⟩
        obtain ⟨ya116, hya116⟩ : ∃ x, x = d[h]!.1 := ⟨_, rfl⟩
        obtain ⟨yb116, hyb116⟩ : ∃ x, x = d[h]!.2 := ⟨_, rfl⟩
        obtain ⟨c116a, c116b⟩ := it_cells_grown S1.out R (by omega) (m) (by omega)
        obtain ⟨c116c, c116d⟩ := it_cells_grown S1.out R (by omega) (h) (by omega)
        rw [← hxa116] at c116a
        rw [← hxb116] at c116b
        rw [← hya116] at c116c
        rw [← hyb116] at c116d
        simp only [← hiN116, hoI116] at c116a c116b
        simp only [← hjN116, hoJ116] at c116c c116d
        have hc116 := S1.out.cmp (HC.out w0) (by omega) (xa116, xb116) (ya116, yb116)
        dsimp only [It.cells] at hc116
        have hv116 : ¬ cf (xa116, xb116) (ya116, yb116) < 0 := by rw [hxa116, hxb116, hya116, hyb116]; exact fun h => hk ((HCF.out _ _).1 h)
        have hd116 : decide (cf (xa116, xb116) (ya116, yb116) < 0) = false := decide_eq_false hv116
        clear hxa116 hxb116 hya116 hyb116 hiN116 hjN116
        go_wp2_with fail
        go_quiet_grown (first | (go_at_fn g; refine Calls.grown_of (hc116 _ _)))
        have S2 : Aside (SWK It.cells 2 w0 blk off d (grow (wr.drewN nq) osq)) := S1.out.grown nq osq
        clear c116a c116b c116c c116d hc116 S1
        generalize grow (wr.drewN nq) osq = w2 at S2 ⊢
        clear nq osq
        clear ea116 ec116 hoI116 hoJ116
        go_wp2
        go_roundg (j - (h + 1))
        case measure => omega
        case rel => exact ⟨h + 1, j, by go_num, rfl, by omega, by omega, hjb, Nat.le_refl _, S2, (show Hid _ from ⟨.inr (by rw [Nat.add_sub_cancel]; exact hk), HI.out.2⟩)⟩
    · have hltz : ¬ (i : Int) < (j : Int) := by omega
      obtain rfl : j = i := by omega
      go_wp2
      go_loopg [17] (m - j) (fun kx s17 wr2 => ∃ (k : Nat) (dk : Array It), s17 = .int .i64 k ∧ j ≤ k ∧ k ≤ m ∧ k - j ≤ kx ∧ dk.size = d.size ∧ Aside (SWK It.cells 2 w0 blk off dk wr2) ∧ Hid (IsRot k m (m + 1) d dk))
      case atStart => exact ⟨m, d, rfl, hjb, Nat.le_refl _, Nat.le_refl _, rfl, S1, IsRot.nil' d⟩
      case round =>
        clear S1
        obtain ⟨k, dk, rfl, hak, hke, hkx2, hds, S2, HR⟩ := hrel
        by_cases hlk : j < k
        · have hlz : (j : Int) < (k : Int) := by omega
          have hlz2 : decide ((k : Int) > (j : Int)) = true := decide_eq_true (by omega)
          obtain ⟨kp, hkp⟩ : ∃ q, q + 1 = k := ⟨k - 1, by omega⟩
          have zkp : IntKind.i64.wrap ((k : Int) - 1) = (kp : Int) := by rw [IntKind.wrap_i64] <;> omega
          go_wp2_with fail
          obtain ⟨iN117, hiN117⟩ : ∃ q, q = k := ⟨_, rfl⟩
          obtain ⟨jN117, hjN117⟩ : ∃ q, q = k - 1 := ⟨_, rfl⟩
          have ea117 : ((k : Int)).toNat = iN117 := by omega
          have pa117 : (0 : Int) ≤ (k : Int) := by omega
          have ba117 : (k : Int) < (d.size : Int) := by omega
          have ra117 : IntKind.i64.wrap ((k : Int)) = (k : Int) := by rw [IntKind.wrap_i64]; omega
          have ec117 : ((kp : Int)).toNat = jN117 := by omega
          have pc117 : (0 : Int) ≤ (kp : Int) := by omega
          have bc117 : (kp : Int) < (d.size : Int) := by omega
          have rc117 : IntKind.i64.wrap ((kp : Int)) = (kp : Int) := by rw [IntKind.wrap_i64]; omega
          obtain ⟨oI117, hoI117⟩ : ∃ q, off + iN117 * 2 = q := ⟨_, rfl⟩
          obtain ⟨oJ117, hoJ117⟩ : ∃ q, off + jN117 * 2 = q := ⟨_, rfl⟩
          obtain ⟨xa117, hxa117⟩ : ∃ x, x = dk[k]!.1 := ⟨_, rfl⟩
          obtain ⟨xb117, hxb117⟩ : ∃ x, x = dk[k]!.2 := ⟨_, rfl⟩
          obtain ⟨ya117, hya117⟩ : ∃ x, x = dk[k - 1]!.1 := ⟨_, rfl⟩
          obtain ⟨yb117, hyb117⟩ : ∃ x, x = dk[k - 1]!.2 := ⟨_, rfl⟩
          have S3 : Aside (SWK It.cells 2 w0 blk off (swp dk (k) (k - 1)) (((((wr.setCell ⟨blk, oI117, none⟩ (.int .i64 ya117)).setCell ⟨blk, oI117 + 1, none⟩ (.int .i64 yb117)).setCell ⟨blk, oJ117, none⟩ (.int .i64 xa117)).setCell ⟨blk, oJ117 + 1, none⟩ (.int .i64 xb117)).drew)) := by rw [← hoI117, ← hoJ117, hiN117, hjN117, hxa117, hxb117, hya117, hyb117]; exact it_swapped S2.out R (k) (k - 1) (by omega) (by omega)
          obtain ⟨⟨c117a, c117b⟩, f117a, f117b⟩ := it_cells S2.out R (by omega) (k) (by omega)
          obtain ⟨⟨c117c, c117d⟩, f117c, f117d⟩ := it_cells S2.out R (by omega) (k - 1) (by omega)
          rw [← hxa117] at c117a
          rw [← hxb117] at c117b
          rw [← hya117] at c117c
          rw [← hyb117] at c117d
          rw [← hiN117, hoI117] at c117a c117b f117a f117b
          rw [← hjN117, hoJ117] at c117c c117d f117c f117d
          have n117a : ¬ oI117 = oJ117 := by omega
          have n117b : ¬ oI117 + 1 = oJ117 := by omega
          have n117c : ¬ oI117 = oJ117 + 1 := by omega
          have n117d : ¬ oJ117 = oI117 := by omega
          have n117e : ¬ oJ117 + 1 = oI117 := by omega
          have n117f : ¬ oJ117 = oI117 + 1 := by omega
          clear S2 hxa117 hxb117 hya117 hyb117 hiN117 hjN117
          go_wp2_with fail
          go_big_region_o
          clear c117a c117b c117c c117d f117a f117b f117c f117d n117a n117b n117c n117d n117e n117f
          generalize (((((wr.setCell ⟨blk, oI117, none⟩ (.int .i64 ya117)).setCell ⟨blk, oI117 + 1, none⟩ (.int .i64 yb117)).setCell ⟨blk, oJ117, none⟩ (.int .i64 xa117)).setCell ⟨blk, oJ117 + 1, none⟩ (.int .i64 xb117)).drew) = w3 at S3 ⊢
          clear ea117 ec117 hoI117 hoJ117
          go_wp2
          go_roundg (k - 1 - j)
          case measure => omega
          case rel => exact ⟨k - 1, _, by first | rfl | go_num | (congr 1; omega), by omega, by omega, Nat.le_refl _, by rw [size_swp]; exact hds, S3, (show Hid _ from rot_left (by omega) hke (by omega) HR.out)⟩
        · have hlz : ¬ (j : Int) < (k : Int) := by omega
          have hlz2 : decide ((k : Int) > (j : Int)) = false := decide_eq_false (by omega)
          obtain rfl : k = j := by omega
          go_wp2
          refine bodyPost_ret (results_none rfl _ _ _) rfl ?_
          have hrot : IsRot k m b d dk := by
            rw [show b = m + 1 from by omega]; exact HR.out
          obtain ⟨r1, r2, r3, r4, r5, r6⟩ := rot_facts (a := a) (s := k) (m := m) (e := b) (b := b) (by omega) hjb (by omega) (Nat.le_refl _) hb HS1.out HS2.out (.inr (.inl rfl)) (by
            rcases HI.out.2 with h | h
            · exact .inl h
            · refine .inr (.inr ?_)
              rw [show b - 1 = m from by omega]
              exact h) hrot
          refine ⟨rfl, dk, r1, Srt.join (c := k + (b - m)) (Srt.join (c := k) r2 r3 fun x y x1 x2 y1 y2 => ?_) (Srt.join (c := b) r4 (fun x y q1 q2 q3 => by omega) fun x y x1 x2 y1 y2 => by omega) r6, S2.out⟩
          obtain rfl : y = k := by omega
          rw [hrot.2 x, if_neg (by omega), if_neg (by omega), hrot.2 y, if_pos ⟨by omega, by omega⟩, show y + (m - y) = m from by omega]
          rcases HI.out.1 with h | h
          · omega
          · by_cases hx : x = y - 1
            · subst hx; omega
            · have := HS1.out x (y - 1) x1 (by omega) (by omega)
              omega
end Go.Proofs.Ytfjipkkhjjpaiaa
